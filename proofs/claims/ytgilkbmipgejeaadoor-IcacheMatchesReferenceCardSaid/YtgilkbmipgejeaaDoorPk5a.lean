/- Texts put together: DecRef6, IcRef, IcSpec, IcDec, IcGet, IcCountsW, IcBox, IcFind, IcPeek, IcInval, IcDecAt, IcDrop. -/
import Derived.LoopTactic
import Derived.Laws.LoneSync
import Derived.Laws.EntriesVeiled
import Derived.Handy
import Derived.IntWalk
import Derived.Lib.Hide
import Derived.Lib.MinMax
import Derived.Laws.AppendOwn
import Derived.Test.YtgilkbmipgejeaaDoorKDecRef3
import Derived.Test.YtgilkbmipgejeaaDoorKDecRef4
import Derived.Test.YtgilkbmipgejeaaDoorKDecRef5
import Derived.Test.YtgilkbmipgejeaaDoorPk2a
import Derived.Test.YtgilkbmipgejeaaDoorPk1a
import Derived.Test.YtgilkbmipgejeaaDoorPk0a
import Derived.Test.YtgilkbmipgejeaaDoorKDec
/- The reference's Decode is that of the table. -/
namespace Go.Proofs.YtgilkbmipgejeaaDoor
open Go.RowKit Num Dec
theorem rdecode_any (b0 b1 b2 b3 : Nat) (l : Int) (w : World) (h0 : b0 < 256) (h1 : b1 < 256) (h2 : b2 < 256) (h3 : b3 < 256) :
    Calls Tryd.prog 37 #[.int .u8 (b0 : Int), .int .u8 (b1 : Int), .int .u8 (b2 : Int), .int .u8 (b3 : Int), .int .i64 l] w fun e w' => e = .returned (.agg (icells (dec b0 b1 b2 b3 l))) ∧ Below w.heap.size w w' := by
  by_cases hf : (top (b0 * 256 + b1)).op = 43 ∨ (top (b0 * 256 + b1)).op = 44
  · exact rdecode_rest b0 b1 b2 b3 l w h0 h1 h2 h3 (fun _ => hf)
  · cases hok : ok b0 b1 l
    · exact rdecode_rest b0 b1 b2 b3 l w h0 h1 h2 h3 (fun h => by rw [hok] at h; cases h)
    · cases hk : (top (b0 * 256 + b1)).pk
      · exact rdecode_k1 b0 b1 b2 b3 l w h0 h1 h2 h3 hok hf (by rw [hk]; simp)
      · exact rdecode_k1 b0 b1 b2 b3 l w h0 h1 h2 h3 hok hf (by rw [hk]; simp)
      · exact rdecode_k1 b0 b1 b2 b3 l w h0 h1 h2 h3 hok hf (by rw [hk]; simp)
      · exact rdecode_k1 b0 b1 b2 b3 l w h0 h1 h2 h3 hok hf (by rw [hk]; simp)
      · exact rdecode_k1 b0 b1 b2 b3 l w h0 h1 h2 h3 hok hf (by rw [hk]; simp)
      · exact rdecode_k2 b0 b1 b2 b3 l w h0 h1 h2 h3 hok hf (by rw [hk]; simp)
      · exact rdecode_k2 b0 b1 b2 b3 l w h0 h1 h2 h3 hok hf (by rw [hk]; simp)
      · exact rdecode_k2 b0 b1 b2 b3 l w h0 h1 h2 h3 hok hf (by rw [hk]; simp)
      · exact rdecode_k2 b0 b1 b2 b3 l w h0 h1 h2 h3 hok hf (by rw [hk]; simp)
      · exact rdecode_k2 b0 b1 b2 b3 l w h0 h1 h2 h3 hok hf (by rw [hk]; simp)
end Go.Proofs.YtgilkbmipgejeaaDoor
/- The reference of layer 16: Find, Decoded, Drop. -/
namespace Go.Proofs.YtgilkbmipgejeaaDoor
open Go.RowKit Num Dec
set_option linter.unusedVariables false
set_option linter.unusedSimpArgs false

def ecells (p : Nat × Ins) : List Value := [.int .i64 (p.1 : Int), .int .i64 p.2.op, .int .i64 p.2.x, .int .i64 p.2.y, .int .i64 p.2.n, .int .i64 p.2.nn, .int .i64 p.2.addr, .int .i64 p.2.len]
def eflat (l : Ents) : List Value := l.flatMap ecells
theorem eflat_len : ∀ l : Ents, (eflat l).length = 8 * l.length
  | [] => rfl
  | p :: t => by
    have := eflat_len t
    unfold eflat at *
    simp only [List.flatMap_cons, List.length_append, List.length_cons, this]
    show 8 + _ = _
    omega
theorem eflat_at : ∀ (l : Ents) (k j : Nat) (h : k < l.length), j < 8 → (eflat l)[k * 8 + j]? = (ecells l[k])[j]?
  | p :: t, 0, j, h, hj => by
    unfold eflat
    rw [List.flatMap_cons, List.getElem?_append_left (by show 0 * 8 + j < 8; omega)]
    simp
  | p :: t, k + 1, j, h, hj => by
    have ih := eflat_at t k j (by simpa using h) hj
    unfold eflat at *
    rw [List.flatMap_cons, List.getElem?_append_right (by show 8 ≤ _; omega), show (k + 1) * 8 + j - (ecells p).length = k * 8 + j by show (k + 1) * 8 + j - 8 = _; omega, ih]
    simp
/-- A slice of entries. -/
def EntR (w : World) (A : Option Addr) (l : Ents) : Prop := l ≠ [] → ∃ b, A = some ⟨b, 0, none⟩ ∧ b < w.heap.size ∧ ∀ k (h : k < l.length) j v, (ecells l[k])[j]? = some v → w.cell? ⟨b, k * 8 + j, none⟩ = some v
theorem EntR.nil {w : World} {A : Option Addr} : EntR w A [] := fun h => absurd rfl h
theorem EntR.below {w w' : World} {A : Option Addr} {l : Ents} (h : EntR w A l) (hb : Below w.heap.size w w') : EntR w' A l := fun hne => by
  obtain ⟨b, e, hlt, hc⟩ := h hne
  exact ⟨b, e, Nat.lt_of_lt_of_le hlt hb.size, fun k hk j v hv => (hb.cell (p := ⟨b, k * 8 + j, none⟩) hlt).trans (hc k hk j v hv)⟩
theorem EntR.at_ {w : World} {A : Option Addr} {l : Ents} (h : EntR w A l) {k : Nat} (hk : k < l.length) : ∃ b, A = some ⟨b, 0, none⟩ ∧ b < w.heap.size ∧ ∀ j v, (ecells l[k])[j]? = some v → w.cell? ⟨b, k * 8 + j, none⟩ = some v := by
  obtain ⟨b, e, hlt, hc⟩ := h (by rintro rfl; simp at hk)
  exact ⟨b, e, hlt, hc k hk⟩
theorem find_at : ∀ (l : Ents) (x k : Nat) (h : k < l.length), (∀ j (hj : j < k), (l[j]'(by omega)).1 ≠ x) → l[k].1 = x → findE l x = k
  | p :: t, x, 0, h, _, e => by
    unfold findE
    rw [if_pos (show p.1 = x from e)]
    rfl
  | p :: t, x, k + 1, h, hn, e => by
    have h0 := hn 0 (by omega)
    have ih := find_at t x k (by simpa using h) (fun j hj => hn (j + 1) (by omega)) e
    unfold findE
    rw [if_neg (show ¬ p.1 = x from h0), ih, if_neg (by omega)]
    omega
theorem find_end : ∀ (l : Ents) (x : Nat), (∀ j (hj : j < l.length), l[j].1 ≠ x) → findE l x = -1
  | [], x, _ => rfl
  | p :: t, x, hn => by
    have h0 := hn 0 (by simp)
    have ih := find_end t x (fun j hj => hn (j + 1) (by simpa using hj))
    unfold findE
    rw [if_neg (show ¬ p.1 = x from h0), ih, if_pos (by decide)]

set_option maxRecDepth 100000 in
set_option maxHeartbeats 4000000 in
theorem rfind_any (A : Option Addr) (n c : Nat) (l : Ents) (a : Int) (x : Nat) (w : World) (H : EntR w A l) (hn : l.length = n) (n1 : n ≤ 1000) (hx : a % 65536 = (x : Int)) :
    Calls Tryd.prog 15 #[.slice A n c, .int .i64 a] w fun e w' => e = .returned (.int .i64 (findE l x)) ∧ Below w.heap.size w w' := by
  have HH := Lib.hid (And.intro H (And.intro hn n1))
  have MO := Lib.hid (fun w => mmod_any a x w hx)
  clear H hx
  go_enter Tryd.func15, Tryd.ntmps15
  go_wp2_with fail
  go_loopw [5] (fun v5 wr => ∃ k : Nat, k ≤ n ∧ v5 = .int .i64 (k : Int) ∧ (∀ j (hj : j < l.length), j < k → l[j].1 ≠ x) ∧ Below w.heap.size w wr) (fun v5 _ => n - (intOf v5).toNat)
  case atStart => exact ⟨0, Nat.zero_le _, rfl, fun j _ h => absurd h (Nat.not_lt_zero _), Below.refl _ _⟩
  case round =>
    obtain ⟨k, hk, rfl, hf, hb⟩ := hrel
    have HF := Lib.hid hf
    have HB := Lib.hid hb
    clear hf hb
    by_cases hlt : k < n
    · have kl : k < l.length := by have := HH.out.2.1; omega
      obtain ⟨b, rfl, hbl, hc⟩ := (HH.out.1.below HB.out).at_ kl
      have c0 := hc 0 _ rfl
      rw [Nat.add_zero] at c0
      have HK := Lib.hid (And.intro hlt kl)
      have FA := Lib.hid (fun e => find_at l x k kl (fun j hj => HF.out j (by omega) hj) e)
      have FN := Lib.hid (fun (e : l[k].1 ≠ x) => (fun j (hj : j < l.length) (h : j < k + 1) => by
        by_cases hjk : j = k
        · subst hjk; exact e
        · exact HF.out j hj (by omega) : ∀ j (hj : j < l.length), j < k + 1 → l[j].1 ≠ x))
      generalize (l[k]'kl).1 = y at c0 FA FN
      have MC := Lib.hid (fun u : Calm wr => (MO.out u.w).mono fun e w' h => (show e = .returned (.int .i64 (x : Int)) ∧ u.w = w' from ⟨h.1, h.2.symm⟩))
      have kc := Calm.cell c0 hbl
      have hki : (k : Int) < (n : Int) := by omega
      go_upto_region 4 with fail
      refine calm_region (by kernel_rfl) (by kernel_rfl) ?_
      iterate 6 (go_big_quiet_step (fail))
      go_big_quiet_step ((go_at_call 17; exact calm_same (MC.out _)))
      by_cases e : y = x
      · have FE := Lib.hid (FA.out e)
        subst e
        repeat (go_big_quiet_step (fail))
        refine wpQuiet_nil ?_
        intro _ hw'
        obtain ⟨u, rfl⟩ := hw'
        have BB := Lib.hid (HB.out.trans (u.below.mono HB.out.size))
        go_wp2_with fail
        go_ret
        exact ⟨by rw [FE.out]; rfl, BB.out⟩
      · have FE := Lib.hid (FN.out e)
        have ne : ((y : Int) == (x : Int)) = false := by apply beq_false_of_ne; omega
        repeat (go_big_quiet_step (fail))
        refine wpQuiet_nil ?_
        intro _ hw'
        obtain ⟨u, rfl⟩ := hw'
        have BB := Lib.hid (HB.out.trans (u.below.mono HB.out.size))
        go_wp2_with fail
        exact ⟨⟨k + 1, HK.out.1, rfl, FE.out, BB.out⟩, by have := HK.out.1; simp [intOf]; omega⟩
    · obtain rfl : k = n := by omega
      have FE := Lib.hid (find_end l x (fun j hj => HF.out j hj (by have := HH.out.2.1; omega)))
      go_wp2_with fail
      go_ret
      exact ⟨by rw [FE.out]; rfl, HB.out⟩
/-- A memory of bytes. -/
def BtM (M : List Int) : Prop := ∀ b ∈ M, 0 ≤ b ∧ b ≤ 255
theorem seg_byte {M : List Int} (h : BtM M) (a : Int) (n j : Nat) (hM : M.length = 65536) (hj : j < n) : ∃ v : Nat, v < 256 ∧ (seg M a n)[j]? = some (v : Int) := by
  rw [seg_get M a n j hM hj]
  have hlt : ((a + (j : Int)) % 65536).toNat < M.length := by omega
  rw [List.getElem?_eq_getElem hlt]
  have := h _ (List.getElem_mem hlt)
  exact ⟨(M[((a + (j : Int)) % 65536).toNat]).toNat, by omega, by rw [Int.toNat_of_nonneg this.1]⟩
theorem byAt_is {M : List Int} (h : BtM M) (a : Int) (j : Nat) (hM : M.length = 65536) (hj : j < 4) : byAt M a j < 256 ∧ (seg M a 4)[j]? = some ((byAt M a j : Nat) : Int) := by
  obtain ⟨v, hv, e⟩ := seg_byte h a 4 j hM hj
  have : byAt M a j = v := by
    unfold byAt
    rw [List.getD_eq_getElem?_getD, e]
    simp
  rw [this]
  exact ⟨hv, e⟩
end Go.Proofs.YtgilkbmipgejeaaDoor
/- What the cache's functions ought to do, of whatever form it is: the laws' walks take it as a premise. -/
namespace Go.Proofs.YtgilkbmipgejeaaDoor
open Go.RowKit Num Dec
set_option linter.unusedVariables false

/-- An address as the entries know it. -/
def wr16 (a : Int) : Nat := (a % 65536).toNat
/-- The form of a cache: its blocks, the block of its pointer, the level, whether it keeps entries, the entries up to their order, hits, misses. -/
abbrev IcForm := (Nat → Prop) → Nat → Int → Bool → Ents → Nat → Nat → World → Prop
/-- A cache has come to other entries and numbers; but for its blocks all is as it was. -/
def IcTo (F : IcForm) (O : Nat → Prop) (p : Nat) (lv : Int) (en : Bool) (l : Ents) (h m : Nat) (w w' : World) : Prop := ∃ O', F O' p lv en l h m w' ∧ Grew O O' w.heap.size ∧ Kept O w w'
/-- The entry that a read gives. -/
def peekE (l : Ents) (a : Int) : Ins := (lookE l (wr16 a)).getD ⟨0, 0, 0, 0, 0, 0, 0⟩

structure IcSpec (F : IcForm) (La : World → Prop) : Prop where
  keep : ∀ O O2 p lv en l h m w w', F O p lv en l h m w → Kept O2 w w' → (∀ k, O k → ¬ O2 k) → F O p lv en l h m w'
  lt : ∀ O p lv en l h m w, F O p lv en l h m w → ∀ k, O k → k < w.heap.size
  once : ∀ O p lv en l h m w, F O p lv en l h m w → Once l
  new_ : ∀ lv en w, La w → (Lit.int .i64 lv).wf = true → Calls Tryd.prog 12 #[.int .i64 lv, .bool en] w fun e w' =>
    ∃ p O, e = .returned (.pointer (some ⟨p, 0, none⟩)) ∧ F O p lv en [] 0 0 w' ∧ (∀ k, O k → w.heap.size ≤ k) ∧ Below w.heap.size w w'
  hit : ∀ O p lv en l h m pm M v w a i, La w → F O p lv en l h m w → MemAt pm M v w → M.length = 65536 → BtM M → ¬ O pm → -100000 ≤ a → a ≤ 100000 → l.length ≤ 1000 → h ≤ 100000 → m ≤ 100000 → lookE l (wr16 a) = some i →
    Calls Tryd.prog 14 #[.pointer (some ⟨p, 0, none⟩), .pointer (some ⟨pm, 0, none⟩), .int .i64 a] w fun e w' => e = .returned (.agg (icells i)) ∧ IcTo F O p lv en l (h + 1) m w w'
  miss : ∀ O p lv en l h m pm M v w a, La w → F O p lv en l h m w → MemAt pm M v w → M.length = 65536 → BtM M → ¬ O pm → -100000 ≤ a → a ≤ 100000 → l.length ≤ 1000 → h ≤ 100000 → m ≤ 100000 → lookE l (wr16 a) = none →
    Calls Tryd.prog 14 #[.pointer (some ⟨p, 0, none⟩), .pointer (some ⟨pm, 0, none⟩), .int .i64 a] w fun e w' => e = .returned (.agg (icells (decAt M a lv))) ∧ IcTo F O p lv en (if en then l ++ [(wr16 a, decAt M a lv)] else l) h (m + 1) w w'
  peek : ∀ O p lv en l h m w a, La w → F O p lv en l h m w → -100000 ≤ a → a ≤ 100000 → l.length ≤ 1000 →
    Calls Tryd.prog 25 #[.pointer (some ⟨p, 0, none⟩), .int .i64 a] w fun e w' => e = .returned (.tuple #[.agg (icells (peekE l a)), .bool (lookE l (wr16 a)).isSome]) ∧ Below w.heap.size w w'
  drop : ∀ O p lv en l h m w A c (at_ n : Int), La w → F O p lv en l h m w → w.cell? A = some (.int .i64 at_) → w.cell? (A.add 1) = some (.int .i64 n) → A.block < w.heap.size → ¬ O A.block → 0 ≤ at_ → at_ ≤ 65535 → 0 ≤ n → n ≤ 65536 → l.length ≤ 1000 → 1 ≤ c →
    Calls Tryd.prog 20 #[.pointer (some ⟨p, 0, none⟩), .slice (some A) 1 c] w fun e w' => e = .returned (.tuple #[]) ∧ IcTo F O p lv en (dropE l at_ n) h m w w'
  drop0 : ∀ O p lv en l h m w A c, La w → F O p lv en l h m w → l.length ≤ 1000 →
    Calls Tryd.prog 20 #[.pointer (some ⟨p, 0, none⟩), .slice A 0 c] w fun e w' => e = .returned (.tuple #[]) ∧ IcTo F O p lv en l h m w w'
  flush : ∀ O p lv en l h m w, La w → F O p lv en l h m w → l.length ≤ 1000 →
    Calls Tryd.prog 23 #[.pointer (some ⟨p, 0, none⟩)] w fun e w' => e = .returned (.tuple #[]) ∧ IcTo F O p lv en [] h m w w'
  valid : ∀ O p lv en l h m w, La w → F O p lv en l h m w → l.length ≤ 1000 →
    Calls Tryd.prog 24 #[.pointer (some ⟨p, 0, none⟩)] w fun e w' => e = .returned (.int .i64 (l.length : Int)) ∧ Below w.heap.size w w'
  hits : ∀ O p lv en l h m w, La w → F O p lv en l h m w →
    Calls Tryd.prog 26 #[.pointer (some ⟨p, 0, none⟩)] w fun e w' => e = .returned (.int .i64 (h : Int)) ∧ Below w.heap.size w w'
  misses : ∀ O p lv en l h m w, La w → F O p lv en l h m w →
    Calls Tryd.prog 27 #[.pointer (some ⟨p, 0, none⟩)] w fun e w' => e = .returned (.int .i64 (m : Int)) ∧ Below w.heap.size w w'
section
variable {F : IcForm} {La : World → Prop} {O O' : Nat → Prop} {p h m h' m' : Nat} {lv : Int} {en : Bool} {l l' : Ents} {u w w' : World}
theorem IcSpec.step (S : IcSpec F La) (hf : F O p lv en l h m w) (hb : Below w.heap.size w w') : F O p lv en l h m w' := S.keep O (fun _ => False) p lv en l h m w w' hf (Kept.of_below hb) (fun _ _ c => c)
/-- A cache that came to be, as the law's walk carries it: its blocks above a base. -/
structure IcAt (F : IcForm) (base : Nat) (O : Nat → Prop) (p : Nat) (lv : Int) (en : Bool) (l : Ents) (h m : Nat) (w : World) : Prop where
  form : F O p lv en l h m w
  above : ∀ k, O k → base ≤ k
  lt : ∀ k, O k → k < w.heap.size
  base_le : base ≤ w.heap.size
theorem IcAt.step (S : IcSpec F La) {base : Nat} (hi : IcAt F base O p lv en l h m w) (hb : Below w.heap.size w w') : IcAt F base O p lv en l h m w' :=
  ⟨S.step hi.form hb, hi.above, fun k hk => Nat.lt_of_lt_of_le (hi.lt k hk) hb.size, Nat.le_trans hi.base_le hb.size⟩
theorem IcAt.to (S : IcSpec F La) {base : Nat} (hi : IcAt F base O p lv en l h m w) (ht : IcTo F O p lv en l' h' m' w w') : ∃ O', IcAt F base O' p lv en l' h' m' w' ∧ Grew O O' w.heap.size ∧ Kept O w w' ∧ Below base w w' := by
  obtain ⟨O', hf, hg, hk⟩ := ht
  exact ⟨O', ⟨hf, hg.above hi.base_le hi.above, S.lt _ _ _ _ _ _ _ _ hf, Nat.le_trans hi.base_le hk.size⟩, hg, hk, hk.below hi.base_le hi.above⟩
theorem IcAt.away {base : Nat} (hi : IcAt F base O p lv en l h m w) {k : Nat} (hk : k < base) : ¬ O k := fun c => by have := hi.above k c; omega
end
end Go.Proofs.YtgilkbmipgejeaaDoor
/- The reference of layer 16: Decoded. -/
namespace Go.Proofs.YtgilkbmipgejeaaDoor
open Go.RowKit Num Dec
set_option linter.unusedVariables false
set_option linter.unusedSimpArgs false

theorem zeroIns16 : ZeroT Tryd.prog 38 zeroI := by unfold ZeroT zeroI; kernel_rfl
set_option maxRecDepth 100000 in
set_option maxHeartbeats 4000000 in
theorem rdecoded_any (ad : Addr) (N c : Nat) (M : List Int) (a l : Int) (w : World) (hN : N = 65536) (hM : M.length = N) (hB : BtM M) (hR : ad.block < w.heap.size ∧ ∀ j (h : j < M.length), w.cell? (ad.add j) = some (.int .u8 M[j])) (a0 : -2000000 ≤ a) (a1 : a ≤ 2000000) :
    Calls Tryd.prog 16 #[.slice (some ad) N c, .int .i64 a, .int .i64 l] w fun e w' => e = .returned (.agg (icells (decAt M a l))) ∧ Below w.heap.size w w' := by
  have G0 := Lib.hid (Blk.new w 38 zeroI)
  have B0 := Lib.hid ((Below.refl w.heap.size w).alloc (Nat.le_refl _) (.cells zeroI 38))
  have RB := Lib.hid (fun (w' : World) (hb : Below w.heap.size w w') => rbytes_any ad N c M a 4 w' hN hM ⟨Nat.lt_of_lt_of_le hR.1 hb.size, fun j h => (hb.cell (p := ad.add j) (by rw [add_block]; exact hR.1)).trans (hR.2 j h)⟩ a0 a1 (by decide))
  have BY := Lib.hid (fun j hj => byAt_is hB a j (hM.trans hN) hj)
  have RD := Lib.hid (fun w => rdecode_any (byAt M a 0) (byAt M a 1) (byAt M a 2) (byAt M a 3) l w (BY.out 0 (by decide)).1 (BY.out 1 (by decide)).1 (BY.out 2 (by decide)).1 (BY.out 3 (by decide)).1)
  have SL := Lib.hid (seg_len M a 4)
  obtain ⟨I, hI⟩ : ∃ I, decAt M a l = I := ⟨_, rfl⟩
  rw [show dec (byAt M a 0) (byAt M a 1) (byAt M a 2) (byAt M a 3) l = I from hI] at RD
  rw [hI]
  obtain ⟨s0, s1, s2, s3⟩ := And.intro (BY.out 0 (by decide)).2 (And.intro (BY.out 1 (by decide)).2 (And.intro (BY.out 2 (by decide)).2 (BY.out 3 (by decide)).2))
  generalize byAt M a 0 = c0 at s0 RD
  generalize byAt M a 1 = c1 at s1 RD
  generalize byAt M a 2 = c2 at s2 RD
  generalize byAt M a 3 = c3 at s3 RD
  generalize seg M a 4 = L at s0 s1 s2 s3 SL RB
  have S4 := Lib.hid (And.intro s0 (And.intro s1 (And.intro s2 s3)))
  clear BY s0 s1 s2 s3
  clear hI hR hB hM hN a0 a1
  go_enter Tryd.func16, Tryd.ntmps16
  go_upto_region 1 with fail
  unfold zeroI at G0 B0
  generalize World.alloc _ _ = w1 at G0 B0 ⊢
  go_wp2_with fail
  refine (RB.out _ B0.out).mono ?_
  rintro e w2 ⟨⟨A, cc2, rfl, rd⟩, b2⟩
  have G2 := Lib.hid (G0.out.step b2)
  have B2 := Lib.hid (B0.out.trans (b2.mono B0.out.size))
  clear b2
  obtain ⟨ad2, rfl, hbl, hc⟩ := rd (by intro e; have := SL.out; rw [e] at this; cases this)
  have hcj : ∀ (j : Nat) (v : Int), L[j]? = some v → ∀ u : Calm w2, u.w.cell? (ad2.add j) = some (.int .u8 v) := fun j v hv u => by
    obtain ⟨hj, e⟩ := List.getElem?_eq_some_iff.1 hv
    rw [← e]
    exact (u.below.cell (p := ad2.add j) (by rw [add_block]; exact hbl)).trans (hc j hj)
  have k0 := hcj 0 _ S4.out.1
  have k1 := hcj 1 _ S4.out.2.1
  have k2 := hcj 2 _ S4.out.2.2.1
  have k3 := hcj 3 _ S4.out.2.2.2
  simp only [Addr.add, if_true] at k0
  rw [show ad2.add 1 = ⟨ad2.block, ad2.off + 1, none⟩ from by unfold Addr.add; rw [if_neg (by decide)]] at k1
  rw [show ad2.add 2 = ⟨ad2.block, ad2.off + 2, none⟩ from by unfold Addr.add; rw [if_neg (by decide)]] at k2
  rw [show ad2.add 3 = ⟨ad2.block, ad2.off + 3, none⟩ from by unfold Addr.add; rw [if_neg (by decide)]] at k3
  clear hc hcj rd
  go_upto_region 2 with fail
  refine wp_region_late (C := fun w' => ∃ u : Calm w2, w' = u.w) 14 [([0, 1, 2, 3, 4, 5, 6, 7, 8, 9, 10, 11, 12], 13, true)] [] [] (by kernel_rfl) (by kernel_rfl) ?_ ?_ ⟨⟨w2.drew, (Below.refl _ _).drew⟩, rfl⟩ ?_
  · exact fun _ _ d _ _ h => by cases d <;> exact h
  · rintro _ w' ⟨u, rfl⟩ hg
    exact ⟨⟨w', u.below.trans (hg.mono u.below.size)⟩, rfl⟩
  intro wd hwd
  have bd := Lib.hid (show Below w2.heap.size w2 wd by rw [hwd]; exact (Below.refl _ _).drew)
  clear hwd
  refine late_calm (by simp only [opsAt, List.getElem?_toArray, List.getElem?_cons_succ, List.getElem?_cons_zero]; rfl) (by simp only [List.getElem?_toArray, List.getElem?_cons_succ, List.getElem?_cons_zero]; rfl) ?_
  repeat (go_big_quiet_step (rfl))
  refine wpQuiet_nil ?_
  refine calm_next (v := .agg (icells I)) (calm_fn (g := 37) (caps := #[]) (args := #[.int .u8 (c0 : Int), .int .u8 (c1 : Int), .int .u8 (c2 : Int), .int .u8 (c3 : Int), .int .i64 l]) (.func 37) #[.tmp 13, .tmp 16, .tmp 19, .tmp 22, .tmp 23] #[5, 5, 5, 5, 3] rfl rfl (enters_of Tryd.func37 (by kernel_rfl) rfl) (fun w' hw => RD.out w') rfl (by simp [Act.eval])) ?_
  simp only [Act.put, List.setIfInBounds_toArray, List.set_cons_zero, List.set_cons_succ]
  refine late_last (by simp only [opsAt, List.getElem?_toArray, List.getElem?_cons_succ, List.getElem?_cons_zero]; rfl) (by simp only [List.getElem?_toArray, List.getElem?_cons_succ, List.getElem?_cons_zero]; rfl) ?_
  refine wpQuiet_nil ?_
  refine last_next rfl ?_
  intro w7 g7 C7 K hK
  obtain ⟨u7, rfl⟩ := C7
  refine wp_store_all (ds := icells I) aggInstr (G2.out.step u7.below) rfl rfl (by unfold Ones icells; kernel_rfl) (.tmp 6) (.tmp 24) rfl (by simp [Act.eval, Act.put]) (by simp [Act.eval, Act.put]) ?_
  refine hK _ _ ?_
  clear hK K
  simp only [Act.put, List.setIfInBounds_toArray, List.set_cons_zero, List.set_cons_succ]
  simp only [opsAt, List.getElem?_toArray, List.getElem?_cons_succ, List.getElem?_cons_zero]
  refine wpQuiet_nil ?_
  intro w8 g8
  have RR := ((G2.out.step u7.below).store (icells I)).step g8
  have BB := (belowRow' (B2.out.trans (u7.below.mono B2.out.size)) (Nat.le_refl w.heap.size) (icells I)).trans (g8.mono (by have := u7.below.size; have := B2.out.size; simp [World.setRow]; omega))
  go_wp2_with fail
  iterate 4 (try go_step)
  exact bodyPost_ret (results_cell_row rfl _ _ w.heap.size _ _ _ _ rfl RR Tryd.underlying38 rfl aggInstr.i) rfl ⟨rfl, BB⟩
end Go.Proofs.YtgilkbmipgejeaaDoor
/- A cache that keeps entries: Get in one contract; what the laws of layer 16 share. -/
namespace Go.Proofs.YtgilkbmipgejeaaDoor
open Go.RowKit Num Dec
set_option linter.unusedVariables false
set_option linter.unusedSimpArgs false
set_option maxRecDepth 100000

theorem BtM.put : ∀ (b : List Int) (M : List Int) (a : Int), BtM M → (∀ x ∈ b, 0 ≤ x ∧ x ≤ 255) → BtM (put M a b)
  | [], M, a, h, hb => h
  | x :: b, M, a, h, hb => by
    rw [put_cons]
    refine BtM.put b _ _ ?_ (fun y hy => hb y (List.mem_cons_of_mem _ hy))
    intro y hy
    rcases List.mem_or_eq_of_mem_set hy with h1 | h1
    · exact h y h1
    · rw [h1]; exact hb x (List.mem_cons_self ..)
theorem small_btm : ∀ x ∈ smallL, (0:Int) ≤ x ∧ x ≤ 255 := by decide +kernel
theorem big_btm : ∀ x ∈ bigL, (0:Int) ≤ x ∧ x ≤ 255 := by decide +kernel
theorem btm_initial {R : List Int} (h : ∀ x ∈ R, 0 ≤ x ∧ x ≤ 255) : BtM (initial R) := by
  unfold initial
  refine BtM.put _ _ _ (BtM.put _ _ _ (BtM.put _ _ _ ?_ small_btm) big_btm) h
  intro x hx
  unfold zeros at hx
  rw [List.mem_replicate] at hx
  rw [hx.2]
  exact ⟨by decide, by decide⟩
section
variable {F : IcForm} {La : World → Prop}
/-- A Get of a cache that keeps entries: the instruction is an entry then. -/
theorem IcSpec.get (S : IcSpec F La) {O : Nat → Prop} {p h m pm : Nat} {lv : Int} {l : Ents} {M : List Int} {v : Value} {w : World} {a : Int} (hl : La w) (hf : F O p lv true l h m w) (hm : MemAt pm M v w) (hM : M.length = 65536) (hb : BtM M) (hp : ¬ O pm)
    (a0 : -100000 ≤ a) (a1 : a ≤ 100000) (l1 : l.length ≤ 1000) (h1 : h ≤ 100000) (m1 : m ≤ 100000) :
    Calls Tryd.prog 14 #[.pointer (some ⟨p, 0, none⟩), .pointer (some ⟨pm, 0, none⟩), .int .i64 a] w fun e w' =>
      ∃ i l' h' m', e = .returned (.agg (icells i)) ∧ IcTo F O p lv true l' h' m' w w' ∧ lookE l' (wr16 a) = some i ∧ h' + m' = h + m + 1 ∧ (l.length = m → l'.length = m') ∧ l'.length ≤ l.length + 1 ∧
      (lookE l (wr16 a) = some i ∧ l' = l ∨ lookE l (wr16 a) = none ∧ i = decAt M a lv ∧ l' = l ++ [(wr16 a, i)]) := by
  cases hk : lookE l (wr16 a) with
  | some i =>
    refine (S.hit O p lv true l h m pm M v w a i hl hf hm hM hb hp a0 a1 l1 h1 m1 hk).mono ?_
    rintro e w' ⟨rfl, ht⟩
    exact ⟨i, l, h + 1, m, rfl, ht, hk, by omega, fun e => e, by omega, .inl ⟨rfl, rfl⟩⟩
  | none =>
    refine (S.miss O p lv true l h m pm M v w a hl hf hm hM hb hp a0 a1 l1 h1 m1 hk).mono ?_
    rintro e w' ⟨rfl, ht⟩
    simp only [if_true] at ht
    refine ⟨decAt M a lv, _, h, m + 1, rfl, ht, ?_, by omega, fun e => by simp [e], by simp, .inr ⟨rfl, rfl, rfl⟩⟩
    rw [look_snoc, hk]
    simp
end
end Go.Proofs.YtgilkbmipgejeaaDoor
/- IcacheCounts: the walk, over whatever cache keeps what IcSpec says. -/
namespace Go.Proofs.YtgilkbmipgejeaaDoor
open Go.RowKit Num Dec
set_option linter.unusedVariables false
set_option linter.unusedSimpArgs false

theorem countWraps {k h1 m1 : Nat} (hk : k ≤ 40) (h : h1 + m1 = 2 * k + 1) : ∃ hh y z : Nat, (((h1 + 1 : Nat) : Int) = (hh : Int)) ∧ IntKind.i64.wrap ((h1 : Int) + 1) = (hh : Int) ∧ IntKind.i64.wrap ((hh : Int) + (m1 : Int)) = (z : Int) ∧ IntKind.i64.wrap (2 * (k : Int)) = (y : Int) ∧ IntKind.i64.wrap ((y : Int) + 2) = (z : Int) :=
  ⟨h1 + 1, 2 * k, 2 * k + 2, rfl, by rw [IntKind.wrap_i64]; omega, by rw [IntKind.wrap_i64]; omega, by rw [IntKind.wrap_i64]; omega, by rw [IntKind.wrap_i64]; omega⟩
theorem wrap_u16 {x : Nat} (h : x ≤ 65535) : IntKind.i64.wrap (x : Int) = (x : Int) := by rw [IntKind.wrap_i64]; omega

set_option maxRecDepth 100000 in
set_option maxHeartbeats 8000000 in
theorem icacheCounts_walk {F : IcForm} (S : IcSpec F Laid) (AW : ∀ w, Laid w → Calls Tryd.prog 8 #[] w fun e w' => e = .returned (.bool true) ∧ Below w.heap.size w w') (A : Option Addr) (n c : Nat) (R : List Int) (B : Option Addr) (m d : Nat) (L : List Nat) (w : World) (hA : ArgB w A n c R) (hB : Arg16 w B m L) (hL : Laid w) :
    Calls Tryd.prog 6 #[.slice A n c, .slice B m d] w fun e w' => e = .returned (.bool true) ∧ Below w.heap.size w w' := by
  have H := Lib.hid (And.intro hA (And.intro hB hL))
  have n1 := Nat.le_trans hA.cap hA.max
  have AW := Lib.hid AW
  have S := Lib.hid S
  clear hA hB hL
  go_enter Tryd.func6, Tryd.ntmps6
  go_wp2_with fail
  refine (AW.out _ H.out.2.2).mono ?_
  rintro e w1 ⟨rfl, b1⟩
  have B1 := Lib.hid b1
  clear b1
  go_wp2_with fail
  refine (few_any A n c none 0 0 [] _ n1 (Nat.zero_le _) rfl (fun h => absurd rfl h)).mono ?_
  rintro e w' ⟨f1, rfl, hf1, rfl⟩
  have Hf1 := Lib.hid hf1
  clear hf1 n1
  have stop_ : ∀ wi, Below w.heap.size w wi → Calls Tryd.prog 8 #[] wi fun e w' => e = .returned (.bool true) ∧ Below w.heap.size w w' := fun wi hb => (AW.out _ (H.out.2.2.step hb)).mono fun e w' h => ⟨h.1, hb.trans (h.2.mono hb.size)⟩
  have ST := Lib.hid stop_
  clear stop_
  cases f1
  · go_wp2_with fail
    refine (ST.out _ B1.out).mono ?_
    rintro e w3 ⟨rfl, b3⟩
    have B3 := Lib.hid b3
    clear b3
    go_wp2
    go_ret
    exact ⟨rfl, B3.out⟩
  by_cases hm : m ≤ 40
  case neg =>
    have hm2 : (40 : Int) < (m : Int) := by omega
    clear hm
    go_wp2_with fail
    refine (ST.out _ B1.out).mono ?_
    rintro e w3 ⟨rfl, b3⟩
    have B3 := Lib.hid b3
    clear b3
    go_wp2
    go_ret
    exact ⟨rfl, B3.out⟩
  have hm2 : ¬ (40 : Int) < (m : Int) := by omega
  obtain ⟨n2, _, _⟩ := Hf1.out rfl
  have HM := Lib.hid hm
  clear Hf1 hm ST
  go_wp2_with fail
  refine (new_yes A n c R _ (by omega) H.out.1.len (H.out.1.rd.below B1.out) (H.out.2.2.step B1.out)).mono ?_
  rintro e w2 h
  obtain ⟨pm, rfl, hpm, mm, b2⟩ := h
  have MM := Lib.hid mm
  have HMB := Lib.hid (And.intro (initial_len R) (btm_initial H.out.1.bd))
  have B2 := Lib.hid (B1.out.trans (b2.mono B1.out.size))
  generalize initial R = M at MM HMB
  clear mm b2 hpm B1 hm2
  go_wp2_with fail
  refine (S.out.new_ 3 true _ (H.out.2.2.step B2.out) (by decide)).mono ?_
  rintro e w3 ⟨p, O, rfl, hF, hO, b3⟩
  have IA := Lib.hid (IcAt.mk (base := w2.heap.size) hF hO (S.out.lt _ _ _ _ _ _ _ _ hF) b3.size)
  have MM := Lib.hid (And.intro MM.out.lt (MM.out.keep (b3.block pm MM.out.lt)))
  have B3 := Lib.hid (B2.out.trans (b3.mono B2.out.size))
  have BS := Lib.hid B2.out.size
  generalize w2.heap.size = base at IA MM BS
  clear hF hO b3 B2
  go_wp2_with fail
  go_loopw [8] (fun v8 wr => ∃ (k : Nat) (O : Nat → Prop) (l : Ents) (h m' : Nat), k ≤ m ∧ v8 = .int .i64 (k : Int) ∧ IcAt F base O p 3 true l h m' wr ∧ (h + m' = 2 * k ∧ l.length = m') ∧ MemAt pm M (.slice none 0 0) wr ∧ Below w.heap.size w wr) (fun v8 _ => m - (intOf v8).toNat)
  case atStart => exact ⟨0, O, [], 0, 0, Nat.zero_le _, rfl, IA.out, ⟨rfl, rfl⟩, MM.out.2, B3.out⟩
  case round =>
    obtain ⟨k, O, l, h, m', hk, rfl, ia, hc, mm, bb⟩ := hrel
    have IA := Lib.hid ia
    have HC := Lib.hid hc
    have MM := Lib.hid (And.intro MM.out.1 mm)
    have BB := Lib.hid bb
    clear ia hc mm bb B3
    by_cases hlt : k < m
    · skip -- ROUND
      have kl : k < L.length := by have := H.out.2.1.len; omega
      obtain ⟨ad, rfl, hb, hcell⟩ := H.out.2.1.rd.at_ kl
      have hx : L.getD k 0 ≤ 65535 := by
        rw [List.getD_eq_getElem?_getD, List.getElem?_eq_getElem kl]
        exact H.out.2.1.le _ (List.getElem_mem kl)
      have HCX := Lib.hid (fun (w' : World) (hb' : Below w.heap.size w w') => (hb'.cell (p := ad.add k) (by rw [add_block16]; exact hb)).trans hcell)
      generalize L.getD k 0 = x at hcell hx HCX
      have HX := Lib.hid hx
      have HK := Lib.hid hlt
      have hki : (k : Int) < (m : Int) := by omega
      have hk4 : k ≤ 40 := by have := HM.out; omega
      clear hk hlt kl hx hcell
      have cx := wrap_u16 HX.out
      have hcell := HCX.out wr BB.out
      go_wp2_with fail
      clear cx hcell
      refine (S.out.get (a := (x : Int)) (H.out.2.2.step BB.out) IA.out.form MM.out.2 HMB.out.1 HMB.out.2 (IA.out.away MM.out.1) (by omega) (by have := HX.out; omega) (by have := HC.out; omega) (by have := HC.out; omega) (by have := HC.out; omega)).mono ?_
      rintro e w4 ⟨i, l1, h1, m1, rfl, ht, hl1, hc1, hm1, hle, _⟩
      obtain ⟨O1, ia, hg, hk, hb1⟩ := IA.out.to S.out ht
      have MM1 := Lib.hid (MM.out.2.keep (hk.block pm MM.out.2.lt (IA.out.away MM.out.1)))
      have IA1 := Lib.hid ia
      have HC1 := Lib.hid (show h1 + m1 = 2 * k + 1 ∧ l1.length = m1 from ⟨by have := HC.out.1; omega, hm1 HC.out.2⟩)
      have BB1 := Lib.hid (BB.out.trans (hb1.mono BS.out))
      have HL1 := Lib.hid hl1
      clear ht ia hg hk hb1 hl1 hc1 hm1 hle IA HC BB
      obtain ⟨o, xx, y, nf, nn, a, len⟩ := i
      unfold icells
      simp only
      have G5 := Lib.hid (Blk.new w4 38 #[.int .i64 o, .int .i64 xx, .int .i64 y, .int .i64 nf, .int .i64 nn, .int .i64 a, .int .i64 len])
      have X5 := Lib.hid (below_new' w4 (.cells #[.int .i64 o, .int .i64 xx, .int .i64 y, .int .i64 nf, .int .i64 nn, .int .i64 a, .int .i64 len] 38))
      have NG := Lib.hid (show ¬ O1 w4.heap.size from fun c => Nat.lt_irrefl _ (IA1.out.lt _ c))
      go_upto_region 11 with fail
      obtain ⟨g, hg⟩ : ∃ g, w4.heap.size = g := ⟨_, rfl⟩
      have IA5 := Lib.hid (IA1.out.step S.out X5.out)
      have MM5 := Lib.hid (MM1.out.keep (X5.out.block pm MM1.out.lt))
      have BB5 := Lib.hid (BB1.out.trans (X5.out.mono BB1.out.size))
      clear X5
      rw [hg] at G5 NG ⊢
      generalize World.alloc _ _ = w5 at G5 IA5 MM5 BB5 ⊢
      clear hg
      go_wp2_with fail
      refine (S.out.hits _ _ _ _ _ _ _ _ (H.out.2.2.step BB5.out) IA5.out.form).mono ?_
      rintro e w6 ⟨rfl, b6⟩
      have IA6 := Lib.hid (IA5.out.step S.out b6)
      have MM6 := Lib.hid (MM5.out.keep (b6.block pm MM5.out.lt))
      have BB6 := Lib.hid (BB5.out.trans (b6.mono BB5.out.size))
      have G6 := Lib.hid (G5.out.step b6)
      clear b6 G5 IA5 MM5 BB5
      have cx := wrap_u16 HX.out
      have hcell := HCX.out w6 BB6.out
      go_wp2_with fail
      clear cx hcell
      refine (S.out.hit _ _ _ _ _ _ _ pm M _ _ (x : Int) _ (H.out.2.2.step BB6.out) IA6.out.form MM6.out HMB.out.1 HMB.out.2 (IA6.out.away MM.out.1) (by omega) (by have := HX.out; omega) (by have := HC1.out; omega) (by have := HC1.out; omega) (by have := HC1.out; omega) HL1.out).mono ?_
      rintro e w7 ⟨rfl, ht⟩
      obtain ⟨O2, ia, hg, hk, hb1⟩ := IA6.out.to S.out ht
      have MM7 := Lib.hid (MM6.out.keep (hk.block pm MM6.out.lt (IA6.out.away MM.out.1)))
      have G7 := Lib.hid (show Blk g 38 #[.int .i64 o, .int .i64 xx, .int .i64 y, .int .i64 nf, .int .i64 nn, .int .i64 a, .int .i64 len] w7 from (hk.block g G6.out.lt NG.out).trans G6.out)
      have IA7 := Lib.hid ia
      have BB7 := Lib.hid (BB6.out.trans (hb1.mono BS.out))
      clear ht ia hg hk hb1 G6 IA6 MM6 BB6
      unfold icells
      simp only
      have J8 := Lib.hid (Blk.new w7 38 #[.int .i64 o, .int .i64 xx, .int .i64 y, .int .i64 nf, .int .i64 nn, .int .i64 a, .int .i64 len])
      have X8 := Lib.hid (below_new' w7 (.cells #[.int .i64 o, .int .i64 xx, .int .i64 y, .int .i64 nf, .int .i64 nn, .int .i64 a, .int .i64 len] 38))
      go_upto_region 13 with fail
      obtain ⟨g2, hg⟩ : ∃ g2, w7.heap.size = g2 := ⟨_, rfl⟩
      have IA8 := Lib.hid (IA7.out.step S.out X8.out)
      have MM8 := Lib.hid (MM7.out.keep (X8.out.block pm MM7.out.lt))
      have BB8 := Lib.hid (BB7.out.trans (X8.out.mono BB7.out.size))
      have G8 := Lib.hid (G7.out.step X8.out)
      clear X8 IA7 MM7 BB7 G7
      rw [hg] at J8 ⊢
      generalize World.alloc _ _ = w8 at G8 J8 IA8 MM8 BB8 ⊢
      clear hg
      obtain ⟨hh, y2, z2, e1, s1, s2, s3, s4⟩ := countWraps hk4 HC1.out.1
      have HT := Lib.hid (fun u : Calm w8 => e1 ▸ S.out.hits _ _ _ _ _ _ _ u.w (H.out.2.2.step (BB8.out.trans (u.below.mono BB8.out.size))) (S.out.step IA8.out.form u.below))
      have MT := Lib.hid (fun u : Calm w8 => S.out.misses _ _ _ _ _ _ _ u.w (H.out.2.2.step (BB8.out.trans (u.below.mono BB8.out.size))) (S.out.step IA8.out.form u.below))
      have VT := Lib.hid (fun u : Calm w8 => HC1.out.2 ▸ S.out.valid _ _ _ _ _ _ _ u.w (H.out.2.2.step (BB8.out.trans (u.below.mono BB8.out.size))) (S.out.step IA8.out.form u.below) (by have := HC1.out; omega))
      have c0 := Calm.cell ((G8.out.cell 0).trans rfl) G8.out.lt
      have c1 := Calm.cell ((G8.out.cell 1).trans rfl) G8.out.lt
      have c2 := Calm.cell ((G8.out.cell 2).trans rfl) G8.out.lt
      have c3 := Calm.cell ((G8.out.cell 3).trans rfl) G8.out.lt
      have c4 := Calm.cell ((G8.out.cell 4).trans rfl) G8.out.lt
      have c5 := Calm.cell ((G8.out.cell 5).trans rfl) G8.out.lt
      have c6 := Calm.cell ((G8.out.cell 6).trans rfl) G8.out.lt
      have d0 := Calm.cell ((J8.out.cell 0).trans rfl) J8.out.lt
      have d1 := Calm.cell ((J8.out.cell 1).trans rfl) J8.out.lt
      have d2 := Calm.cell ((J8.out.cell 2).trans rfl) J8.out.lt
      have d3 := Calm.cell ((J8.out.cell 3).trans rfl) J8.out.lt
      have d4 := Calm.cell ((J8.out.cell 4).trans rfl) J8.out.lt
      have d5 := Calm.cell ((J8.out.cell 5).trans rfl) J8.out.lt
      have d6 := Calm.cell ((J8.out.cell 6).trans rfl) J8.out.lt
      clear hk4
      refine calm_plain ?_
      repeat (go_big_quiet_step ((first
        | (go_at_call 26; exact calm_call (HT.out _))
        | (go_at_call 27; exact calm_call (MT.out _))
        | (go_at_call 24; exact calm_call (VT.out _)))))
      refine wpQuiet_nil ?_
      intro _ hw'
      obtain ⟨u, rfl⟩ := hw'
      clear s1 s2 s3 s4 e1
      have IA9 := Lib.hid (IA8.out.step S.out u.below)
      have MM9 := Lib.hid (MM8.out.keep (u.below.block pm MM8.out.lt))
      have BB9 := Lib.hid (BB8.out.trans (u.below.mono BB8.out.size))
      go_wp2_with fail
      exact ⟨⟨k + 1, O2, l1, h1 + 1, m1, HK.out, rfl, IA9.out, ⟨by have := HC1.out.1; omega, HC1.out.2⟩, MM9.out, BB9.out⟩, by have := HK.out; simp [intOf]; omega⟩
    · obtain rfl : k = m := by omega
      have MT := Lib.hid (fun u : Calm wr => S.out.misses _ _ _ _ _ _ _ u.w (H.out.2.2.step (BB.out.trans (u.below.mono BB.out.size))) (S.out.step IA.out.form u.below))
      have VT := Lib.hid (fun u : Calm wr => HC.out.2 ▸ S.out.valid _ _ _ _ _ _ _ u.w (H.out.2.2.step (BB.out.trans (u.below.mono BB.out.size))) (S.out.step IA.out.form u.below) (by have := HC.out; have := HM.out; omega))
      clear hk hlt
      go_upto_region 15 with fail
      refine calm_plain ?_
      repeat (go_big_quiet_step ((first
        | (go_at_call 27; exact calm_call (MT.out _))
        | (go_at_call 24; exact calm_call (VT.out _)))))
      refine wpQuiet_nil ?_
      intro _ hw'
      obtain ⟨u, rfl⟩ := hw'
      have BB9 := Lib.hid (BB.out.trans (u.below.mono BB.out.size))
      go_wp2_with fail
      go_ret
      exact ⟨rfl, BB9.out⟩
end Go.Proofs.YtgilkbmipgejeaaDoor
/- The form of the landed cache: its own block, and blocks of pages. -/
namespace Go.Proofs.YtgilkbmipgejeaaDoor
open Go.RowKit Num Dec
set_option linter.unusedVariables false
set_option linter.unusedSimpArgs false
set_option maxRecDepth 100000

/-- An entry's cells. -/
def entC : Option Ins → Array Value
  | none => #[.bool false, .int .i64 0, .int .i64 0, .int .i64 0, .int .i64 0, .int .i64 0, .int .i64 0, .int .i64 0]
  | some i => #[.bool true, .int .i64 i.op, .int .i64 i.x, .int .i64 i.y, .int .i64 i.n, .int .i64 i.nn, .int .i64 i.addr, .int .i64 i.len]
theorem entC_size (x : Option Ins) : (entC x).size = 8 := by cases x <;> rfl
theorem entC_ones (x : Option Ins) : Ones (entC x) := by cases x <;> (unfold Ones entC; kernel_rfl)
theorem aggEntry : AggT Tryd.prog 91 8 := ⟨⟨_, Tryd.underlying91, rfl⟩, by kernel_rfl⟩
theorem aggPages : AggT Tryd.prog 74 256 := ⟨⟨_, Tryd.underlying74, rfl⟩, by kernel_rfl⟩
theorem aggIns : AggT Tryd.prog 38 7 := ⟨⟨_, Tryd.underlying38, rfl⟩, by kernel_rfl⟩
def zeroP : Array Value := ((List.replicate 256 (entC none).toList).flatten).toArray
theorem zeroPage : ZeroT Tryd.prog 108 zeroP := by unfold ZeroT zeroP; kernel_rfl
def nullP : Array Value := (List.replicate 256 (Value.pointer none)).toArray
theorem builtPages : Tryd.prog.built 74 [] = some nullP := by unfold nullP; kernel_rfl
def newL (N : Nat) (lv : Int) (en : Bool) : List Value := Value.int .i64 lv :: Value.bool en :: (List.replicate N (Value.pointer none) ++ [Value.int .i64 0, Value.int .i64 0, Value.int .i64 0])
def newC (lv : Int) (en : Bool) : Array Value := (newL 256 lv en).toArray
theorem builtCache (lv : Int) (en : Bool) : Tryd.prog.built 81 [(0, .int .i64 lv), (1, .bool en)] = some (newC lv en) := by unfold newC newL; kernel_rfl
theorem zeroP_size : zeroP.size = 2048 := by unfold zeroP; simp [entC]
theorem rep_get (n r j : Nat) (L : List Value) (hr : r < n) (hj : j < L.length) : ((List.replicate n L).flatten)[r * L.length + j]? = L[j]? := by
  induction n generalizing r with
  | zero => omega
  | succ n ih =>
    rw [List.replicate_succ, List.flatten_cons]
    match r, hr with
    | 0, _ => rw [Nat.zero_mul, Nat.zero_add, List.getElem?_append_left hj]
    | r + 1, hr =>
      rw [List.getElem?_append_right (by rw [Nat.succ_mul]; omega), show (r + 1) * L.length + j - L.length = r * L.length + j by rw [Nat.succ_mul]; omega]
      exact ih r (by omega)
theorem zeroP_get (r j : Nat) (hr : r < 256) (hj : j < 8) : zeroP[r * 8 + j]? = (entC none)[j]? := by
  unfold zeroP
  rw [List.getElem?_toArray]
  have := rep_get 256 r j (entC none).toList hr hj
  rw [show (entC none).toList.length = 8 from rfl] at this
  rw [this]
  simp
theorem splice8_get (cs ds : Array Value) (o j : Nat) (ho : o + ds.size ≤ cs.size) : (splice8 cs o ds)[j]? = if o ≤ j ∧ j < o + ds.size then ds[j - o]? else cs[j]? := by
  have h0 : (cs.toList.take o).length = o := by simp; omega
  have h1 : (cs.toList.take o ++ ds.toList).length = o + ds.size := by simp; omega
  unfold splice8
  rw [List.getElem?_toArray]
  by_cases h : o ≤ j ∧ j < o + ds.size
  · rw [if_pos h, List.getElem?_append_left (by rw [h1]; omega), List.getElem?_append_right (by rw [h0]; omega), h0]
    simp
  · rw [if_neg h]
    by_cases h2 : j < o
    · rw [List.append_assoc, List.getElem?_append_left (by rw [h0]; omega), List.getElem?_take_of_lt h2]
      simp
    · rw [List.getElem?_append_right (by rw [h1]; omega), h1, List.getElem?_drop]
      rw [show o + ds.size + (j - (o + ds.size)) = j by omega]
      simp
theorem splice8_len (cs ds : Array Value) (o : Nat) (ho : o + ds.size ≤ cs.size) : (splice8 cs o ds).size = cs.size := by
  unfold splice8
  simp
  omega

/-- Block b is a page of these entries. -/
def PB (f : Nat → Option Ins) (b : Nat) (w : World) : Prop := ∃ cs, Blk b 108 cs w ∧ cs.size = 2048 ∧ ∀ r j, r < 256 → j < 8 → cs[r * 8 + j]? = (entC (f r))[j]?
/-- The block of a cache: what its pages' pointers are, how many entries, hits and misses. -/
def CB (pg : Nat → Option Nat) (p : Nat) (lv : Int) (en : Bool) (n h m : Int) (w : World) : Prop :=
  ∃ cs, Blk p 81 cs w ∧ cs.size = 261 ∧ cs[0]? = some (.int .i64 lv) ∧ cs[1]? = some (.bool en) ∧ (∀ k, k < 256 → cs[2 + k]? = some (.pointer ((pg k).map fun b => ⟨b, 0, none⟩))) ∧
    cs[258]? = some (.int .i64 n) ∧ cs[259]? = some (.int .i64 h) ∧ cs[260]? = some (.int .i64 m)
section
variable {f : Nat → Option Ins} {b p : Nat} {w w' : World} {pg : Nat → Option Nat} {lv n h m : Int} {en : Bool} {O : Nat → Prop}
theorem PB.lt (H : PB f b w) : b < w.heap.size := by obtain ⟨cs, h, _⟩ := H; exact h.lt
theorem PB.keep (H : PB f b w) (e : w'.heap[b]? = w.heap[b]?) : PB f b w' := by obtain ⟨cs, h, r⟩ := H; exact ⟨cs, e.trans h, r⟩
theorem PB.kept (H : PB f b w) (k : Kept O w w') (ho : ¬ O b) : PB f b w' := H.keep (k.block b H.lt ho)
theorem PB.cell (H : PB f b w) {r j : Nat} (hr : r < 256) (hj : j < 8) : w.cell? ⟨b, r * 8 + j, none⟩ = (entC (f r))[j]? := by
  obtain ⟨cs, hb, hs, hc⟩ := H
  rw [hb.cell, hc r j hr hj]
theorem PB.put (H : PB f b w) {r : Nat} (hr : r < 256) (x : Option Ins) : ∃ cs, Blk b 108 cs w ∧ cs.size = 2048 ∧ PB (fun s => if s = r then x else f s) b (w.setRow b (splice8 cs (r * 8) (entC x))) := by
  obtain ⟨cs, hb, hs, hc⟩ := H
  have hz := entC_size x
  have hl : r * 8 + (entC x).size ≤ cs.size := by omega
  refine ⟨cs, hb, hs, _, hb.store _, by rw [splice8_len _ _ _ hl, hs], ?_⟩
  intro s j h1 h2
  rw [splice8_get _ _ _ _ hl]
  by_cases e : s = r
  · subst e
    rw [if_pos (by omega), show s * 8 + j - s * 8 = j by omega]
    simp
  · rw [if_neg (by omega), hc s j h1 h2]
    simp [e]
theorem PB.new (w : World) : PB (fun _ => none) w.heap.size (w.alloc (.cells zeroP 108)) := ⟨zeroP, Blk.new _ _ _, zeroP_size, fun r j hr hj => zeroP_get r j hr hj⟩
theorem PB.congr {g : Nat → Option Ins} (H : PB f b w) (e : ∀ r, r < 256 → f r = g r) : PB g b w := by
  obtain ⟨cs, hb, hs, hc⟩ := H
  exact ⟨cs, hb, hs, fun r j hr hj => by rw [hc r j hr hj, e r hr]⟩
theorem CB.lt (H : CB pg p lv en n h m w) : p < w.heap.size := by obtain ⟨cs, h, _⟩ := H; exact h.lt
theorem CB.keep (H : CB pg p lv en n h m w) (e : w'.heap[p]? = w.heap[p]?) : CB pg p lv en n h m w' := by obtain ⟨cs, h, r⟩ := H; exact ⟨cs, e.trans h, r⟩
theorem CB.kept (H : CB pg p lv en n h m w) (k : Kept O w w') (ho : ¬ O p) : CB pg p lv en n h m w' := H.keep (k.block p H.lt ho)
theorem CB.c0 (H : CB pg p lv en n h m w) : w.cell? ⟨p, 0, none⟩ = some (.int .i64 lv) := by obtain ⟨cs, hb, _, h0, _⟩ := H; rw [hb.cell, h0]
theorem CB.c1 (H : CB pg p lv en n h m w) : w.cell? ⟨p, 1, none⟩ = some (.bool en) := by obtain ⟨cs, hb, _, _, h1, _⟩ := H; rw [hb.cell, h1]
theorem CB.page (H : CB pg p lv en n h m w) {k : Nat} (hk : k < 256) : w.cell? ⟨p, 2 + k, none⟩ = some (.pointer ((pg k).map fun b => ⟨b, 0, none⟩)) := by obtain ⟨cs, hb, _, _, _, hc, _⟩ := H; rw [hb.cell, hc k hk]
theorem CB.cn (H : CB pg p lv en n h m w) : w.cell? ⟨p, 258, none⟩ = some (.int .i64 n) := by obtain ⟨cs, hb, _, _, _, _, h3, _⟩ := H; rw [hb.cell, h3]
theorem CB.ch (H : CB pg p lv en n h m w) : w.cell? ⟨p, 259, none⟩ = some (.int .i64 h) := by obtain ⟨cs, hb, _, _, _, _, _, h3, _⟩ := H; rw [hb.cell, h3]
theorem CB.cm (H : CB pg p lv en n h m w) : w.cell? ⟨p, 260, none⟩ = some (.int .i64 m) := by obtain ⟨cs, hb, _, _, _, _, _, _, h3⟩ := H; rw [hb.cell, h3]
theorem CB.fz (H : CB pg p lv en n h m w) (j : Nat) : w.frozen? ⟨p, j, none⟩ = false := by obtain ⟨cs, hb, _⟩ := H; exact hb.frozen j
theorem CB.setN (H : CB pg p lv en n h m w) (n' : Int) : CB pg p lv en n' h m (w.setCell ⟨p, 258, none⟩ (.int .i64 n')) := by
  obtain ⟨cs, hb, hs, h0, h1, hc, hn, hh, hm⟩ := H
  refine ⟨_, hb.put 258 _, by simp [hs], ?_, ?_, fun k hk => ?_, ?_, ?_, ?_⟩
  all_goals rw [Array.getElem?_setIfInBounds]
  · rw [if_neg (by decide)]; exact h0
  · rw [if_neg (by decide)]; exact h1
  · rw [if_neg (by omega)]; exact hc k hk
  · rw [if_pos rfl, if_pos (by omega)]
  · rw [if_neg (by decide)]; exact hh
  · rw [if_neg (by decide)]; exact hm
theorem CB.setH (H : CB pg p lv en n h m w) (h' : Int) : CB pg p lv en n h' m (w.setCell ⟨p, 259, none⟩ (.int .i64 h')) := by
  obtain ⟨cs, hb, hs, h0, h1, hc, hn, hh, hm⟩ := H
  refine ⟨_, hb.put 259 _, by simp [hs], ?_, ?_, fun k hk => ?_, ?_, ?_, ?_⟩
  all_goals rw [Array.getElem?_setIfInBounds]
  · rw [if_neg (by decide)]; exact h0
  · rw [if_neg (by decide)]; exact h1
  · rw [if_neg (by omega)]; exact hc k hk
  · rw [if_neg (by decide)]; exact hn
  · rw [if_pos rfl, if_pos (by omega)]
  · rw [if_neg (by decide)]; exact hm
theorem CB.setM (H : CB pg p lv en n h m w) (m' : Int) : CB pg p lv en n h m' (w.setCell ⟨p, 260, none⟩ (.int .i64 m')) := by
  obtain ⟨cs, hb, hs, h0, h1, hc, hn, hh, hm⟩ := H
  refine ⟨_, hb.put 260 _, by simp [hs], ?_, ?_, fun k hk => ?_, ?_, ?_, ?_⟩
  all_goals rw [Array.getElem?_setIfInBounds]
  · rw [if_neg (by decide)]; exact h0
  · rw [if_neg (by decide)]; exact h1
  · rw [if_neg (by omega)]; exact hc k hk
  · rw [if_neg (by decide)]; exact hn
  · rw [if_neg (by decide)]; exact hh
  · rw [if_pos rfl, if_pos (by omega)]
theorem CB.setP (H : CB pg p lv en n h m w) {k : Nat} (hk : k < 256) (b : Nat) : CB (fun j => if j = k then some b else pg j) p lv en n h m (w.setCell ⟨p, 2 + k, none⟩ (.pointer (some ⟨b, 0, none⟩))) := by
  obtain ⟨cs, hb, hs, h0, h1, hc, hn, hh, hm⟩ := H
  refine ⟨_, hb.put (2 + k) _, by simp [hs], ?_, ?_, fun j hj => ?_, ?_, ?_, ?_⟩
  all_goals rw [Array.getElem?_setIfInBounds]
  · rw [if_neg (by omega)]; exact h0
  · rw [if_neg (by omega)]; exact h1
  · by_cases e : j = k
    · subst e
      rw [if_pos rfl, if_pos (by omega)]
      simp
    · rw [if_neg (by omega), hc j hj]
      simp [e]
  · rw [if_neg (by omega)]; exact hn
  · rw [if_neg (by omega)]; exact hh
  · rw [if_neg (by omega)]; exact hm
theorem CB.flush (H : CB pg p lv en n h m w) : ∃ cs, Blk p 81 cs w ∧ cs.size = 261 ∧ CB (fun _ => none) p lv en n h m (w.setRow p (splice8 cs 2 nullP)) := by
  obtain ⟨cs, hb, hs, h0, h1, hc, hn, hh, hm⟩ := H
  have hz : nullP.size = 256 := by unfold nullP; simp
  have hl : 2 + nullP.size ≤ cs.size := by omega
  refine ⟨cs, hb, hs, _, hb.store _, by rw [splice8_len _ _ _ hl, hs], ?_, ?_, fun j hj => ?_, ?_, ?_, ?_⟩
  all_goals rw [splice8_get _ _ _ _ hl]
  · rw [if_neg (by omega)]; exact h0
  · rw [if_neg (by omega)]; exact h1
  · rw [if_pos (by omega), show 2 + j - 2 = j by omega]
    unfold nullP
    rw [List.getElem?_toArray, List.getElem?_replicate, if_pos hj]
    rfl
  · rw [if_neg (by omega)]; exact hn
  · rw [if_neg (by omega)]; exact hh
  · rw [if_neg (by omega)]; exact hm
theorem newL_page (N : Nat) (lv : Int) (en : Bool) (j : Nat) (hj : j < N) : (newL N lv en)[2 + j]? = some (.pointer none) := by
  unfold newL
  rw [show 2 + j = j + 1 + 1 by omega, List.getElem?_cons_succ, List.getElem?_cons_succ, List.getElem?_append_left (by rw [List.length_replicate]; exact hj), List.getElem?_replicate, if_pos hj]
theorem newL_tail (N : Nat) (lv : Int) (en : Bool) (j : Nat) (hj : j < 3) : (newL N lv en)[2 + N + j]? = some (.int .i64 0) := by
  unfold newL
  rw [show 2 + N + j = (N + j) + 1 + 1 by omega, List.getElem?_cons_succ, List.getElem?_cons_succ, List.getElem?_append_right (by rw [List.length_replicate]; omega), List.length_replicate, show N + j - N = j by omega]
  match j, hj with
  | 0, _ => rfl
  | 1, _ => rfl
  | 2, _ => rfl
theorem newL_len (N : Nat) (lv : Int) (en : Bool) : (newL N lv en).length = N + 5 := by
  unfold newL
  rw [List.length_cons, List.length_cons, List.length_append, List.length_replicate]
  rfl
theorem CB.new (w : World) (lv : Int) (en : Bool) : CB (fun _ => none) w.heap.size lv en 0 0 0 (w.alloc (.cells (newC lv en) 81)) := by
  refine ⟨_, Blk.new _ _ _, ?_, ?_, ?_, fun j hj => ?_, ?_, ?_, ?_⟩
  all_goals unfold newC
  · rw [List.size_toArray, newL_len]
  · rfl
  · rfl
  · rw [List.getElem?_toArray, newL_page _ _ _ _ hj]
    rfl
  · rw [List.getElem?_toArray]
    exact newL_tail 256 lv en 0 (by decide)
  · rw [List.getElem?_toArray]
    exact newL_tail 256 lv en 1 (by decide)
  · rw [List.getElem?_toArray]
    exact newL_tail 256 lv en 2 (by decide)
end
/-- The pages hold what T says. -/
structure PGS (pg : Nat → Option Nat) (T : Nat → Option Ins) (w : World) : Prop where
  some_ : ∀ k b, k < 256 → pg k = some b → PB (fun r => T (k * 256 + r)) b w
  none_ : ∀ k, k < 256 → pg k = none → ∀ r, r < 256 → T (k * 256 + r) = none
  one : ∀ j k b, j < 256 → k < 256 → pg j = some b → pg k = some b → j = k
/-- The blocks of a cache. -/
def icO (pg : Nat → Option Nat) (p : Nat) (k : Nat) : Prop := k = p ∨ ∃ j, j < 256 ∧ pg j = some k
/-- The landed cache. -/
def IcF : IcForm := fun O p lv en l h m w => ∃ pg, O = icO pg p ∧ CB pg p lv en (l.length : Int) (h : Int) (m : Int) w ∧ PGS pg (lookE l) w ∧ Once l ∧ (∀ e ∈ l, e.1 < 65536) ∧ (Lit.int .i64 lv).wf = true ∧ (en = false → l = [])
section
variable {pg : Nat → Option Nat} {T : Nat → Option Ins} {p : Nat} {w w' : World} {lv n h m : Int} {en : Bool} {O : Nat → Prop}
theorem PGS.lt (H : PGS pg T w) {j b : Nat} (hj : j < 256) (e : pg j = some b) : b < w.heap.size := (H.some_ j b hj e).lt
theorem PGS.kept (H : PGS pg T w) (k : Kept O w w') (ho : ∀ j b, j < 256 → pg j = some b → ¬ O b) : PGS pg T w' :=
  ⟨fun j b hj e => (H.some_ j b hj e).kept k (ho j b hj e), H.none_, H.one⟩
/-- A cache's own block is no page. -/
theorem CB.notPage {pg2 : Nat → Option Nat} (C : CB pg2 p lv en n h m w) (H : PGS pg T w) {j b : Nat} (hj : j < 256) (e : pg j = some b) : b ≠ p := by
  rintro rfl
  obtain ⟨cs, h1, h2, _⟩ := C
  obtain ⟨ds, h3, h4, _⟩ := H.some_ j b hj e
  have h1' := h1.symm.trans h3
  injection h1' with h1'
  injection h1' with h5
  rw [h5] at h2
  omega
theorem icO_lt (C : CB pg p lv en n h m w) (H : PGS pg T w) : ∀ k, icO pg p k → k < w.heap.size := by
  rintro k (rfl | ⟨j, hj, e⟩)
  · exact C.lt
  · exact H.lt hj e
/-- One page is turned. -/
theorem PGS.put (H : PGS pg T w) {x : Nat} (hx : x < 65536) (i : Option Ins) {b : Nat} (hb : pg (x / 256) = some b) : ∃ cs, Blk b 108 cs w ∧ cs.size = 2048 ∧ PGS pg (fun y => if y = x then i else T y) (w.setRow b (splice8 cs (x % 256 * 8) (entC i))) := by
  obtain ⟨cs, h1, h2, h3⟩ := (H.some_ _ _ (by omega) hb).put (by omega : x % 256 < 256) i
  refine ⟨cs, h1, h2, fun k c hk e => ?_, fun k hk e r hr => ?_, H.one⟩
  · by_cases hkx : k = x / 256
    · subst hkx
      rw [hb] at e
      injection e with e
      subst e
      refine h3.congr fun r hr => ?_
      by_cases e2 : r = x % 256
      · rw [if_pos e2, if_pos (by omega)]
      · rw [if_neg e2, if_neg (by omega)]
    · have hne : c ≠ b := by
        rintro rfl
        exact hkx (H.one _ _ _ hk (by omega) e hb)
      refine ((H.some_ k c hk e).keep (setRow_other w b c _ hne)).congr fun r hr => ?_
      rw [if_neg (by omega)]
  · rw [if_neg]
    · exact H.none_ k hk e r hr
    · intro hx2
      have : k = x / 256 := by omega
      subst this
      rw [hb] at e
      cases e
end
end Go.Proofs.YtgilkbmipgejeaaDoor
/- Contracts of the atomic counter's methods and of find. -/
namespace Go.Proofs.YtgilkbmipgejeaaDoor
open Go.RowKit Num Dec
set_option linter.unusedVariables false
set_option linter.unusedSimpArgs false
set_option maxRecDepth 100000

set_option maxHeartbeats 1000000 in
theorem aload_any (b j : Nat) (x : Int) (w : World) (hc : w.cell? ⟨b, j, none⟩ = some (.int .i64 x)) :
    Calls Tryd.prog 43 #[.pointer (some ⟨b, j, none⟩)] w fun e w' => e = .returned (.int .i64 x) ∧ w = w' := by
  have hl := run_call_load (P := Tryd.prog) Tryd.func55 (by kernel_rfl) (by kernel_rfl) (by kernel_rfl) .i64 (by kernel_rfl) hc
  go_enter Tryd.func43, Tryd.ntmps43
  go_wp2
  go_ret
  exact ⟨rfl, rfl⟩
set_option maxHeartbeats 1000000 in
theorem aadd_any (b j : Nat) (x : Int) (w : World) (hc : w.cell? ⟨b, j, none⟩ = some (.int .i64 x)) (hz : w.frozen? ⟨b, j, none⟩ = false) (x0 : 0 ≤ x) (x1 : x ≤ 1000000) :
    Calls Tryd.prog 34 #[.pointer (some ⟨b, j, none⟩), .int .i64 1] w fun e w' => e = .returned (.int .i64 (x + 1)) ∧ w' = w.setCell ⟨b, j, none⟩ (.int .i64 (x + 1)) := by
  have hw : IntKind.i64.wrap (x + 1) = x + 1 := by rw [IntKind.wrap_i64]; omega
  have hadd := run_call_add (P := Tryd.prog) Tryd.func49 (by kernel_rfl) (by kernel_rfl) (by kernel_rfl) .i64 (by kernel_rfl) (y := 1) (s := x + 1) hc hz (by simp [go_sem, hw])
  clear hw
  obtain ⟨s, hs⟩ : ∃ s, x + 1 = s := ⟨_, rfl⟩
  rw [hs] at hadd ⊢
  clear hs
  go_enter Tryd.func34, Tryd.ntmps34
  go_wp2
  go_ret
  exact ⟨rfl, rfl⟩

/-- What find hands back. -/
def foundV (pg : Nat → Option Nat) (T : Nat → Option Ins) (x : Nat) : Value := match T x, pg (x / 256) with
  | some _, some b => .pointer (some ⟨b, x % 256 * 8, none⟩)
  | _, _ => .pointer none
theorem word_div (x : Nat) (hx : x < 65536) : ∃ k r : Int, (Int.tdiv (x : Int) 256 = k ∧ IntKind.i64.wrap k = k ∧ Int.tmod (x : Int) 256 = r ∧ IntKind.i64.wrap r = r) ∧ k = ((x / 256 : Nat) : Int) ∧ r = ((x % 256 : Nat) : Int) := by
  refine ⟨_, _, ⟨rfl, ?_, rfl, ?_⟩, ?_, ?_⟩
  · rw [Int.tdiv_eq_ediv_of_nonneg (by omega), IntKind.wrap_i64]; omega
  · rw [Int.tmod_eq_emod_of_nonneg (by omega), IntKind.wrap_i64]; omega
  · rw [Int.tdiv_eq_ediv_of_nonneg (by omega)]; rfl
  · rw [Int.tmod_eq_emod_of_nonneg (by omega)]; rfl

set_option maxHeartbeats 4000000 in
theorem find16_any (pg : Nat → Option Nat) (T : Nat → Option Ins) (p : Nat) (lv : Int) (en : Bool) (n h m a : Int) (x : Nat) (w : World) (C : CB pg p lv en n h m w) (G : PGS pg T w) (hx : a % 65536 = (x : Int)) :
    Calls Tryd.prog 42 #[.pointer (some ⟨p, 0, none⟩), .int .i64 a] w fun e w' => e = .returned (foundV pg T x) ∧ w' = w := by
  have WR := Lib.hid (fun w => mwrap_any a x w hx)
  have hx6 : x < 65536 := by omega
  obtain ⟨k, r, ⟨u1, u2, u3, u4⟩, ek, er⟩ := word_div x hx6
  have c1 := C.page (show x / 256 < 256 by omega)
  have hk : x / 256 < 256 := by omega
  have hr : x % 256 < 256 := by omega
  have hxx : x / 256 * 256 + x % 256 = x := by omega
  have FV : foundV pg T x = foundV pg T x := rfl
  have HG := Lib.hid G
  clear C G hx hx6
  cases hp : pg (x / 256) with
  | none =>
    rw [hp] at c1
    have E := Lib.hid (show foundV pg T x = .pointer none by unfold foundV; rw [hp]; cases T x <;> rfl)
    subst ek er
    generalize x / 256 = kk at *
    generalize x % 256 = rr at *
    clear hp hxx FV
    simp only [Option.map_none] at c1
    go_enter Tryd.func42, Tryd.ntmps42
    go_wp2_with fail
    refine (WR.out _).mono ?_
    rintro e w' ⟨rfl, rfl⟩
    go_wp2_with fail
    go_ret
    exact ⟨by rw [E.out]; rfl, rfl⟩
  | some b =>
    rw [hp] at c1
    have hc := ((HG.out.some_ _ b hk hp).cell hr (show 0 < 8 by decide))
    simp only [hxx, Nat.add_zero] at hc
    simp only [Option.map_some] at c1
    cases hT : T x with
    | none =>
      have E := Lib.hid (show foundV pg T x = .pointer none by unfold foundV; rw [hT])
      rw [hT] at hc
      replace hc := hc.trans (show (entC none)[0]? = some (.bool false) from rfl)
      subst ek er
      generalize x / 256 = kk at *
      generalize x % 256 = rr at *
      clear hp hxx hT FV
      go_enter Tryd.func42, Tryd.ntmps42
      go_wp2_with fail
      refine (WR.out _).mono ?_
      rintro e w' ⟨rfl, rfl⟩
      go_wp2_with fail

      go_ret
      exact ⟨by rw [E.out]; rfl, rfl⟩
    | some i =>
      have E := Lib.hid (show foundV pg T x = .pointer (some ⟨b, x % 256 * 8, none⟩) by unfold foundV; rw [hT, hp])
      rw [hT] at hc
      replace hc := hc.trans (show (entC (some i))[0]? = some (.bool true) from rfl)
      subst ek er
      generalize x / 256 = kk at *
      generalize x % 256 = rr at *
      clear hp hxx hT FV
      go_enter Tryd.func42, Tryd.ntmps42
      go_wp2_with fail
      refine (WR.out _).mono ?_
      rintro e w' ⟨rfl, rfl⟩
      go_wp2_with fail
      go_ret
      exact ⟨by rw [E.out]; rfl, rfl⟩
end Go.Proofs.YtgilkbmipgejeaaDoor
/- Contracts of New, Peek, Valid, Hits, Misses and Flush. -/
namespace Go.Proofs.YtgilkbmipgejeaaDoor
open Go.RowKit Num Dec
set_option linter.unusedVariables false
set_option linter.unusedSimpArgs false
set_option maxRecDepth 100000

def zI : Ins := ⟨0, 0, 0, 0, 0, 0, 0⟩
theorem zI_cells : icells zI = zeroI := rfl
theorem builtInstr : Tryd.prog.built 38 [] = some zeroI := by unfold zeroI; kernel_rfl
set_option maxHeartbeats 4000000 in
theorem peek16_any (pg : Nat → Option Nat) (T : Nat → Option Ins) (p : Nat) (lv : Int) (en : Bool) (n h m a : Int) (x : Nat) (w : World) (C : CB pg p lv en n h m w) (G : PGS pg T w) (hx : a % 65536 = (x : Int)) :
    Calls Tryd.prog 25 #[.pointer (some ⟨p, 0, none⟩), .int .i64 a] w fun e w' => e = .returned (.tuple #[.agg (icells ((T x).getD zI)), .bool (T x).isSome]) ∧ Below w.heap.size w w' := by
  have hx6 : x / 256 < 256 := by omega
  have hr6 : x % 256 < 256 := by omega
  have FI := Lib.hid (fun u (hb : Below w.heap.size w u) => find16_any pg T p lv en n h m a x u (C.keep (hb.block p C.lt)) (G.kept (O := fun _ => False) (Kept.of_below hb) (fun _ _ _ _ c => c)) hx)
  have G0 := Lib.hid (Blk.new w 38 zeroI)
  have B0 := Lib.hid ((Below.refl w.heap.size w).alloc (Nat.le_refl _) (.cells zeroI 38))
  have HG := Lib.hid G
  have hf : (T x = none ∧ foundV pg T x = .pointer none) ∨ ∃ i b, T x = some i ∧ pg (x / 256) = some b ∧ foundV pg T x = .pointer (some ⟨b, x % 256 * 8, none⟩) := by
    cases hT : T x with
    | none => exact .inl ⟨rfl, by unfold foundV; rw [hT]⟩
    | some i =>
      cases hp : pg (x / 256) with
      | none =>
        have := G.none_ _ hx6 hp (x % 256) hr6
        rw [show x / 256 * 256 + x % 256 = x by omega, hT] at this
        cases this
      | some b => exact .inr ⟨i, b, rfl, rfl, by unfold foundV; rw [hT, hp]⟩
  have HX := Lib.hid (And.intro hx6 hr6)
  clear C G hx hx6 hr6
  rcases hf with ⟨hT, hv⟩ | ⟨i, b, hT, hp, hv⟩
  · rw [hv] at FI
    rw [hT]
    clear hT hv
    go_enter Tryd.func25, Tryd.ntmps25
    go_upto_region 1 with fail
    unfold zeroI at G0 B0
    generalize World.alloc _ _ = w1 at G0 B0 ⊢
    go_wp2_with fail
    refine (FI.out _ B0.out).mono ?_
    rintro e w2 ⟨rfl, rfl⟩
    clear FI
    go_upto_region 5 with fail
    refine wp_region_lit ?_
    refine list_build_all rfl rfl (cs := zeroI) (by simp only [List.map_toArray, List.map_nil]; exact builtInstr) ?_
    simp only [Act.put, List.setIfInBounds_toArray, List.set_cons_zero, List.set_cons_succ]
    refine list_store_all aggInstr G0.out rfl rfl (by unfold Ones zeroI; kernel_rfl) rfl (.tmp 4) (.tmp 15) rfl rfl rfl ?_
    simp only [Act.put, List.setIfInBounds_toArray, List.set_cons_zero, List.set_cons_succ]
    have R := G0.out.store zeroI
    have B := belowRow' B0.out (Nat.le_refl w.heap.size) zeroI
    generalize World.setRow _ _ _ = w3 at R B ⊢
    go_wp2_with fail
    exact bodyPost_ret (results_cell_slot8 rfl _ _ w.heap.size _ _ _ _ rfl rfl R aggInstr rfl) rfl ⟨rfl, B⟩
  · rw [hv] at FI
    have HC := Lib.hid (fun u (hb : Below w.heap.size w u) j (hj : j < 8) => ((HG.out.some_ _ b HX.out.1 hp).keep (hb.block b ((HG.out.some_ _ b HX.out.1 hp).lt))).cell HX.out.2 hj)
    rw [show x / 256 * 256 + x % 256 = x by omega, hT] at HC
    rw [hT]
    obtain ⟨r, hr⟩ : ∃ r, x % 256 = r := ⟨_, rfl⟩
    rw [hr] at FI HC
    clear hT hv hr
    go_enter Tryd.func25, Tryd.ntmps25
    go_upto_region 1 with fail
    unfold zeroI at G0 B0
    generalize World.alloc _ _ = w1 at G0 B0 ⊢
    go_wp2_with fail
    refine (FI.out _ B0.out).mono ?_
    rintro e w2 ⟨rfl, rfl⟩
    clear FI
    go_upto_region 6 with fail
    refine wp_region_lit ?_
    iterate 9 go_step
    refine list_load_cells rfl _ (.tmp 18) rfl ⟨b, r * 8 + 1, none⟩ rfl (icells i) aggInstr rfl (fun j v hj => ?_) ?_
    · have := HC.out _ B0.out (j + 1) (by have := (Array.getElem?_eq_some_iff.1 hj).1; simp [icells] at this; omega)
      rw [add_pl, show r * 8 + 1 + j = r * 8 + (j + 1) by omega, this, ← hj]
      unfold entC icells
      simp
    simp only [Act.put, List.setIfInBounds_toArray, List.set_cons_zero, List.set_cons_succ]
    refine list_store_all aggInstr G0.out rfl rfl (by unfold Ones icells; kernel_rfl) rfl (.tmp 4) (.tmp 19) rfl rfl rfl ?_
    simp only [Act.put, List.setIfInBounds_toArray, List.set_cons_zero, List.set_cons_succ]
    have R := G0.out.store (icells i)
    have B := belowRow' B0.out (Nat.le_refl w.heap.size) (icells i)
    generalize World.setRow _ _ _ = w3 at R B ⊢
    go_wp2_with fail
    exact bodyPost_ret (results_cell_slot8 rfl _ _ w.heap.size _ _ _ _ rfl rfl R aggInstr rfl) rfl ⟨rfl, B⟩
set_option maxHeartbeats 1000000 in
theorem valid16_any (pg : Nat → Option Nat) (p : Nat) (lv : Int) (en : Bool) (n h m : Int) (w : World) (C : CB pg p lv en n h m w) :
    Calls Tryd.prog 24 #[.pointer (some ⟨p, 0, none⟩)] w fun e w' => e = .returned (.int .i64 n) ∧ w = w' := by
  have c := C.cn
  go_enter Tryd.func24, Tryd.ntmps24
  go_wp2
  go_ret
  exact ⟨rfl, rfl⟩
set_option maxHeartbeats 1000000 in
theorem hits16_any (pg : Nat → Option Nat) (p : Nat) (lv : Int) (en : Bool) (n h m : Int) (w : World) (C : CB pg p lv en n h m w) :
    Calls Tryd.prog 26 #[.pointer (some ⟨p, 0, none⟩)] w fun e w' => e = .returned (.int .i64 h) ∧ w = w' := by
  have L := Lib.hid (aload_any p 259 h w C.ch)
  go_enter Tryd.func26, Tryd.ntmps26
  go_wp2_with fail
  refine L.out.mono ?_
  rintro e w' ⟨rfl, rfl⟩
  go_wp2_with fail
  go_ret
  exact ⟨rfl, rfl⟩
set_option maxHeartbeats 1000000 in
theorem misses16_any (pg : Nat → Option Nat) (p : Nat) (lv : Int) (en : Bool) (n h m : Int) (w : World) (C : CB pg p lv en n h m w) :
    Calls Tryd.prog 27 #[.pointer (some ⟨p, 0, none⟩)] w fun e w' => e = .returned (.int .i64 m) ∧ w = w' := by
  have L := Lib.hid (aload_any p 260 m w C.cm)
  go_enter Tryd.func27, Tryd.ntmps27
  go_wp2_with fail
  refine L.out.mono ?_
  rintro e w' ⟨rfl, rfl⟩
  go_wp2_with fail
  go_ret
  exact ⟨rfl, rfl⟩
set_option maxHeartbeats 1000000 in
theorem valid16_nil (w : World) : Calls Tryd.prog 24 #[.pointer none] w fun e w' => e = .returned (.int .i64 0) ∧ w = w' := by
  go_enter Tryd.func24, Tryd.ntmps24
  go_wp2
  go_ret
  exact ⟨rfl, rfl⟩
set_option maxHeartbeats 1000000 in
theorem new16_any (lv : Int) (en : Bool) (w : World) :
    Calls Tryd.prog 12 #[.int .i64 lv, .bool en] w fun e w' => e = .returned (.pointer (some ⟨w.heap.size, 0, none⟩)) ∧ w' = w.alloc (.cells (newC lv en) 81) := by
  go_enter Tryd.func12, Tryd.ntmps12
  go_upto_region 1 with fail
  refine wp_region_lit ?_
  iterate 6 go_step
  refine list_build_all rfl rfl (cs := newC lv en) (by simp only [List.map_toArray, List.map_cons, List.map_nil]; exact builtCache lv en) ?_
  simp only [Act.put, List.setIfInBounds_toArray, List.set_cons_zero, List.set_cons_succ]
  refine list_box_all rfl _ (.tmp 7) rfl (newC lv en) rfl ?_
  simp only [Act.put, List.setIfInBounds_toArray, List.set_cons_zero, List.set_cons_succ]
  obtain ⟨w1, hw⟩ : ∃ w1, w.alloc (.cells (newC lv en) 81) = w1 := ⟨_, rfl⟩
  rw [hw]
  have HW := Lib.hid hw
  clear hw
  go_wp2_with fail
  go_ret
  exact ⟨rfl, HW.out.symm⟩
set_option maxHeartbeats 1000000 in
theorem flush16_any (pg : Nat → Option Nat) (p : Nat) (lv : Int) (en : Bool) (n h m : Int) (w : World) (C : CB pg p lv en n h m w) :
    Calls Tryd.prog 23 #[.pointer (some ⟨p, 0, none⟩)] w fun e w' => e = .returned (.tuple #[]) ∧ CB (fun _ => none) p lv en 0 h m w' ∧ Kept (fun k => k = p) w w' := by
  obtain ⟨cs, hb, hs, C1⟩ := C.flush
  have K1 := Lib.hid (show Kept (fun k => k = p) w (w.setRow p (splice8 cs 2 nullP)) from ⟨rfl, rfl, rfl, by simp [World.setRow], fun k _ hk => setRow_other w p k _ hk⟩)
  have HB := Lib.hid (And.intro hb hs)
  have C1 := Lib.hid C1
  clear hb hs C
  go_enter Tryd.func23, Tryd.ntmps23
  go_upto_region 1 with fail
  refine wp_region_lit ?_
  iterate 3 go_step
  refine list_build_all rfl rfl (cs := nullP) (by simp only [List.map_toArray, List.map_nil]; exact builtPages) ?_
  simp only [Act.put, List.setIfInBounds_toArray, List.set_cons_zero, List.set_cons_succ]
  iterate 6 go_step
  refine list_store_part aggPages HB.out.1 (by unfold nullP; simp) (by rw [HB.out.2]; decide) (by unfold Ones nullP; kernel_rfl) rfl (.tmp 7) (.tmp 5) rfl rfl rfl ?_
  simp only [Act.put, List.setIfInBounds_toArray, List.set_cons_zero, List.set_cons_succ]
  generalize World.setRow _ _ _ = w1 at C1 K1 ⊢
  have cn := C1.out.cn
  have fn := C1.out.fz 258
  have C2 := Lib.hid (C1.out.setN 0)
  have K2 := Lib.hid (show Kept (fun k => k = p) w (w1.setCell ⟨p, 258, none⟩ (.int .i64 0)) from K1.out.trans ⟨rfl, rfl, rfl, by simp, fun k _ hk => Below.heap_setCell w1 ⟨p, 258, none⟩ _ k hk⟩ Grew.refl)
  go_wp2_with fail
  go_end0
  exact ⟨rfl, C2.out, K2.out⟩
end Go.Proofs.YtgilkbmipgejeaaDoor
/- Contracts of drop and Invalidate. -/
namespace Go.Proofs.YtgilkbmipgejeaaDoor
open Go.RowKit Num Dec
set_option linter.unusedVariables false
set_option linter.unusedSimpArgs false
set_option maxRecDepth 100000

theorem builtEntry : Tryd.prog.built 91 [] = some (entC none) := by unfold entC; kernel_rfl
theorem PGS.congr {pg : Nat → Option Nat} {T S : Nat → Option Ins} {w : World} (H : PGS pg T w) (e : ∀ x, x < 65536 → T x = S x) : PGS pg S w :=
  ⟨fun k b hk hp => (H.some_ k b hk hp).congr fun r hr => e _ (by omega), fun k hk hp r hr => by rw [← e _ (by omega)]; exact H.none_ k hk hp r hr, H.one⟩
theorem PGS.cell258 {pg : Nat → Option Nat} {T : Nat → Option Ins} {w : World} (H : PGS pg T w) {p : Nat} (hp : ∀ j b, j < 256 → pg j = some b → b ≠ p) (o : Nat) (v : Value) : PGS pg T (w.setCell ⟨p, o, none⟩ v) :=
  ⟨fun k b hk e => (H.some_ k b hk e).keep (Below.heap_setCell w ⟨p, o, none⟩ v b (hp k b hk e)), H.none_, H.one⟩
theorem wraps3 (at_ : Int) (j : Nat) (a0 : 0 ≤ at_) (a1 : at_ ≤ 65535) (hj : j ≤ 65536) : ∃ q r : Int, (IntKind.i64.wrap (at_ - 3) = q ∧ IntKind.i64.wrap (q + (j : Int)) = r) ∧ r = at_ - 3 + (j : Int) :=
  ⟨at_ - 3, at_ - 3 + (j : Int), ⟨by rw [IntKind.wrap_i64]; omega, by rw [IntKind.wrap_i64]; omega⟩, rfl⟩
theorem span_wrap (n : Int) (n0 : 0 < n) (n1 : n ≤ 65536) : ∃ q : Int, min n 65533 = q ∧ IntKind.i64.wrap (q + 3) = ((spanN n : Nat) : Int) ∧ spanN n ≤ 65536 := by
  refine ⟨_, rfl, ?_, ?_⟩
  · unfold spanN; rw [IntKind.wrap_i64]; omega
  · unfold spanN; omega

set_option maxHeartbeats 4000000 in
theorem drop16_any (pg : Nat → Option Nat) (p : Nat) (lv : Int) (en : Bool) (h m at_ n : Int) (l : Ents) (w : World) (C : CB pg p lv en (l.length : Int) h m w) (G : PGS pg (lookE l) w) (ho : Once l) (hl : ∀ e ∈ l, e.1 < 65536) (l1 : l.length ≤ 1000000)
    (a0 : 0 ≤ at_) (a1 : at_ ≤ 65535) (n0 : 0 < n) (n1 : n ≤ 65536) :
    Calls Tryd.prog 40 #[.pointer (some ⟨p, 0, none⟩), .agg #[.int .i64 at_, .int .i64 n]] w fun e w' =>
      e = .returned (.tuple #[]) ∧ CB pg p lv en ((dropE l at_ n).length : Int) h m w' ∧ PGS pg (lookE (dropE l at_ n)) w' ∧ Kept (icO pg p) w w' := by
  obtain ⟨q0, mn, wn, hN6⟩ := span_wrap n n0 n1
  have HD := Lib.hid (rmN_drop l at_ n hl n0 n1)
  obtain ⟨N, hN⟩ : ∃ N, spanN n = N := ⟨_, rfl⟩
  rw [hN] at wn hN6 HD
  have OL := Lib.hid (icO_lt C G)
  have NP := Lib.hid (fun j b (hj : j < 256) (e : pg j = some b) => C.notPage G hj e)
  have HL := Lib.hid (And.intro ho (And.intro hl l1))
  have HA := Lib.hid (And.intro a0 (And.intro a1 hN6))
  have HC := Lib.hid C
  have HG := Lib.hid G
  have Bw := Lib.hid (Blk.new w 52 #[.int .i64 at_, .int .i64 n])
  have bw := Lib.hid ((Below.refl w.heap.size w).alloc (Nat.le_refl _) (.cells #[.int .i64 at_, .int .i64 n] 52))
  clear C G ho hl l1 a0 a1 n0 n1 hN hN6
  go_enter Tryd.func40, Tryd.ntmps40
  go_upto_region 1 with fail
  obtain ⟨g, hg⟩ : ∃ g, w.heap.size = g := ⟨_, rfl⟩
  have C1 := Lib.hid (HC.out.keep (bw.out.block p HC.out.lt))
  have G1 := Lib.hid (HG.out.kept (O := fun _ => False) (Kept.of_below bw.out) (fun _ _ _ _ c => c))
  have K1 := Lib.hid (show Kept (icO pg p) w (w.alloc (.cells #[.int .i64 at_, .int .i64 n] 52)) from Kept.of_below bw.out)
  have GO := Lib.hid (show ¬ icO pg p g from fun c => by have := OL.out _ c; omega)
  rw [hg] at Bw ⊢
  generalize World.alloc _ _ = w1 at Bw C1 G1 K1 ⊢
  clear HC HG bw
  have c0 := (Bw.out.cell 0).trans rfl
  have c1 := (Bw.out.cell 1).trans rfl
  go_wp2_with fail
  clear c0 c1 mn wn
  go_loopw [10] (fun v10 wr => ∃ j : Nat, j ≤ N ∧ v10 = .int .i64 (j : Int) ∧ CB pg p lv en ((rmN l (at_ - 3) j).length : Int) h m wr ∧ PGS pg (lookE (rmN l (at_ - 3) j)) wr ∧ Once (rmN l (at_ - 3) j) ∧ Blk g 52 #[.int .i64 at_, .int .i64 n] wr ∧ Kept (icO pg p) w wr) (fun v10 _ => N - (intOf v10).toNat)
  case atStart => exact ⟨0, Nat.zero_le _, rfl, C1.out, G1.out, HL.out.1, Bw.out, K1.out⟩
  case round =>
    obtain ⟨j, hj, rfl, hC, hG, hO, hB, hK⟩ := hrel
    have Cj := Lib.hid hC
    have Gj := Lib.hid hG
    have Oj := Lib.hid hO
    have Bj := Lib.hid hB
    have Kj := Lib.hid hK
    clear hC hG hO hB hK C1 G1 Bw K1
    by_cases hlt : j < N
    · have HJ := Lib.hid hlt
      have hji : (j : Int) < (N : Int) := by omega
      obtain ⟨q, r, SW, hr⟩ := wraps3 at_ j HA.out.1 HA.out.2.1 (by have := HA.out.2.2; omega)
      obtain ⟨x, hx⟩ : ∃ x : Nat, (at_ - 3 + (j : Int)) % 65536 = (x : Int) := ⟨((at_ - 3 + (j : Int)) % 65536).toNat, by omega⟩
      have RN := Lib.hid (show rmN l (at_ - 3) (j + 1) = rmE (rmN l (at_ - 3) j) x by
        show rmE (rmN l (at_ - 3) j) ((at_ - 3 + (j : Int)) % 65536).toNat = _
        rw [hx]; rfl)
      have LJ := Lib.hid (show (rmN l (at_ - 3) j).length ≤ 1000000 from Nat.le_trans (rmN_le _ _ _) HL.out.2.2)
      have hx6 : x < 65536 := by omega
      have FI := Lib.hid (fun u (e1 : u.heap[p]? = wr.heap[p]?) (k1 : Kept (fun _ => False) wr u) => find16_any pg (lookE (rmN l (at_ - 3) j)) p lv en _ h m r x u (Cj.out.keep e1) (Gj.out.kept k1 (fun _ _ _ _ c => c)) (by rw [hr]; exact hx))
      have FI := Lib.hid (FI.out wr rfl Kept.refl)
      generalize rmN l (at_ - 3) j = L at Cj Gj Oj RN LJ FI
      clear hr hx hj hlt
      have c0 := (Bj.out.cell 0).trans rfl
      obtain ⟨s1, s2⟩ := SW
      have j6 : (N : Int) ≤ 65536 := by have := HA.out.2.2; omega
      have hf : (lookE L x = none ∧ foundV pg (lookE L) x = .pointer none) ∨ ∃ i b, lookE L x = some i ∧ pg (x / 256) = some b ∧ foundV pg (lookE L) x = .pointer (some ⟨b, x % 256 * 8, none⟩) := by
        cases hT : lookE L x with
        | none => exact .inl ⟨rfl, by unfold foundV; rw [hT]⟩
        | some i =>
          cases hp : pg (x / 256) with
          | none =>
            have := Gj.out.none_ _ (by omega) hp (x % 256) (by omega)
            rw [show x / 256 * 256 + x % 256 = x by omega, hT] at this
            cases this
          | some b => exact .inr ⟨i, b, rfl, rfl, by unfold foundV; rw [hT, hp]⟩
      rcases hf with ⟨hT, hv⟩ | ⟨i, b, hT, hp, hv⟩
      · rw [hv] at FI
        have RN := Lib.hid (show rmN l (at_ - 3) (j + 1) = L by rw [RN.out]; exact rm_none L x hT)
        clear hT hv hx6
        go_wp2_with fail
        clear s1 s2 c0
        refine FI.out.mono ?_
        rintro e w5 ⟨rfl, rfl⟩
        clear FI
        go_wp2_with fail
        exact ⟨⟨j + 1, HJ.out, rfl, by rw [RN.out]; exact Cj.out, by rw [RN.out]; exact Gj.out, by rw [RN.out]; exact Oj.out, Bj.out, Kj.out⟩, by have := HJ.out; simp [intOf]; omega⟩
      · rw [hv] at FI
        have RL := Lib.hid (rm_len L x i Oj.out hT)
        obtain ⟨cs, hb, hs, G5⟩ := Gj.out.put hx6 none hp
        have G5 := Lib.hid (G5.congr (S := lookE (rmE L x)) fun y _ => by rw [look_rm])
        have HB := Lib.hid (And.intro hb hs)
        have XR := Lib.hid (show x % 256 * 8 + 8 ≤ 2048 by omega)
        have BO := Lib.hid (show icO pg p b from .inr ⟨_, by omega, hp⟩)
        have bp := Lib.hid (NP.out _ _ (by omega) hp)
        have bg := Lib.hid (show g ≠ b from fun e => GO.out (e ▸ BO.out))
        obtain ⟨o, ho⟩ : ∃ o, x % 256 * 8 = o := ⟨_, rfl⟩
        rw [ho] at FI G5 XR
        clear hT hv hx6 hb hs hp ho
        go_wp2_with fail
        clear s1 s2 c0
        refine FI.out.mono ?_
        rintro e w5 ⟨rfl, rfl⟩
        clear FI
        go_upto_region 6 with fail
        refine wp_region_lit ?_
        iterate 3 go_step
        refine list_build_all rfl rfl (cs := entC none) (by simp only [List.map_toArray, List.map_nil]; exact builtEntry) ?_
        simp only [Act.put, List.setIfInBounds_toArray, List.set_cons_zero, List.set_cons_succ]
        iterate 3 go_step
        refine list_store_part aggEntry HB.out.1 rfl (by rw [HB.out.2]; exact XR.out) (entC_ones none) rfl (.tmp 24) (.tmp 23) rfl rfl rfl ?_
        simp only [Act.put, List.setIfInBounds_toArray, List.set_cons_zero, List.set_cons_succ]
        have C5 := Lib.hid (Cj.out.keep (setRow_other w5 b p (splice8 cs o (entC none)) (fun e => bp.out e.symm)))
        have B5 := Lib.hid (Bj.out.otherRow bg.out (splice8 cs o (entC none)))
        have K5 := Lib.hid (Kj.out.trans (show Kept (icO pg p) w5 (w5.setRow b (splice8 cs o (entC none))) from ⟨rfl, rfl, rfl, by simp [World.setRow], fun k _ hk => setRow_other w5 b k _ (fun e => hk (e ▸ BO.out))⟩) Grew.refl)
        generalize World.setRow _ _ _ = w6 at C5 B5 K5 G5 ⊢
        clear Cj Bj Kj Gj HB
        have cn := C5.out.cn
        have fn := C5.out.fz 258
        have wl : IntKind.i64.wrap ((L.length : Int) - 1) = ((rmE L x).length : Int) := by rw [IntKind.wrap_i64]; have := RL.out; have := LJ.out; omega
        have C6 := Lib.hid (C5.out.setN ((rmE L x).length : Int))
        have G6 := Lib.hid (G5.out.cell258 NP.out 258 (.int .i64 ((rmE L x).length : Int)))
        have B6 := Lib.hid (B5.out.other (fun e => GO.out (.inl e)) 258 (.int .i64 ((rmE L x).length : Int)))
        have K6 := Lib.hid (K5.out.trans (show Kept (icO pg p) w6 (w6.setCell ⟨p, 258, none⟩ (.int .i64 ((rmE L x).length : Int))) from ⟨rfl, rfl, rfl, by simp, fun k _ hk => Below.heap_setCell w6 ⟨p, 258, none⟩ _ k (fun e => hk (.inl e))⟩) Grew.refl)
        have O6 := Lib.hid (Oj.out.rm x)
        generalize hq : ((rmE L x).length : Int) = ll at *
        go_wp2_with fail
        exact ⟨⟨j + 1, HJ.out, rfl, by rw [RN.out, hq]; exact C6.out, by rw [RN.out]; exact G6.out, by rw [RN.out]; exact O6.out, B6.out, K6.out⟩, by have := HJ.out; simp [intOf]; omega⟩
    · obtain rfl : j = N := by omega
      rw [HD.out] at Cj Gj
      clear hj hlt
      go_wp2_with fail
      go_end0
      exact ⟨rfl, Cj.out, Gj.out, Kj.out⟩
/-- A slice of spans. -/
def RgR (w : World) (A : Option Addr) (R : List (Int × Int)) (O : Nat → Prop) : Prop := ∀ i (hi : i < R.length), ∃ b o, A = some ⟨b, o, none⟩ ∧ b < w.heap.size ∧ ¬ O b ∧ w.cell? ⟨b, o + i * 2, none⟩ = some (.int .i64 R[i].1) ∧ w.cell? ⟨b, o + i * 2 + 1, none⟩ = some (.int .i64 R[i].2)
theorem RgR.kept {w w' : World} {A : Option Addr} {R : List (Int × Int)} {O : Nat → Prop} (H : RgR w A R O) (k : Kept O w w') : RgR w' A R O := fun i hi => by
  obtain ⟨b, o, e, hb, ho, c0, c1⟩ := H i hi
  exact ⟨b, o, e, Nat.lt_of_lt_of_le hb k.size, ho, (k.cell (a := ⟨b, o + i * 2, none⟩) hb ho).trans c0, (k.cell (a := ⟨b, o + i * 2 + 1, none⟩) hb ho).trans c1⟩
theorem Once.dropL : ∀ (t : List (Int × Int)) {l : Ents}, Once l → Once (dropL l t)
  | [], l, h => h
  | s :: t, l, h => by
    unfold Go.Proofs.YtgilkbmipgejeaaDoor.dropL
    refine Once.dropL t ?_
    split
    · exact h.drop _ _
    · exact h
theorem dropL_mem {e : Nat × Ins} : ∀ (t : List (Int × Int)) (l : Ents), e ∈ dropL l t → e ∈ l
  | [], l, h => h
  | s :: t, l, h => by
    unfold dropL at h
    have := dropL_mem t _ h
    split at this
    · unfold dropE at this
      exact (List.mem_filter.1 this).1
    · exact this
theorem take_snoc {α : Type} (R : List α) (i : Nat) (hi : i < R.length) : R.take (i + 1) = R.take i ++ [R[i]] := by simp

set_option maxHeartbeats 4000000 in
theorem inval16_any (pg : Nat → Option Nat) (p : Nat) (lv : Int) (en : Bool) (h m : Int) (l : Ents) (R : List (Int × Int)) (A : Option Addr) (k c : Nat) (w : World) (C : CB pg p lv en (l.length : Int) h m w) (G : PGS pg (lookE l) w) (ho : Once l) (hl : ∀ e ∈ l, e.1 < 65536) (l1 : l.length ≤ 1000000)
    (HR : RgR w A R (icO pg p)) (hk : R.length = k) (k1 : k ≤ 1000) (hs : ∀ s ∈ R, 0 ≤ s.1 ∧ s.1 ≤ 65535 ∧ s.2 ≤ 65536) :
    Calls Tryd.prog 20 #[.pointer (some ⟨p, 0, none⟩), .slice A k c] w fun e w' =>
      e = .returned (.tuple #[]) ∧ CB pg p lv en ((dropL l R).length : Int) h m w' ∧ PGS pg (lookE (dropL l R)) w' ∧ Kept (icO pg p) w w' := by
  have HL := Lib.hid (And.intro ho (And.intro hl l1))
  have HS := Lib.hid (And.intro hk (And.intro k1 hs))
  have HC := Lib.hid C
  have HG := Lib.hid G
  have HR := Lib.hid HR
  clear C G ho hl l1 hs
  go_enter Tryd.func20, Tryd.ntmps20
  go_wp2_with fail
  go_loopw [10] (fun v10 wr => ∃ i : Nat, i ≤ k ∧ v10 = .int .i64 (i : Int) ∧ CB pg p lv en ((dropL l (R.take i)).length : Int) h m wr ∧ PGS pg (lookE (dropL l (R.take i))) wr ∧ Kept (icO pg p) w wr) (fun v10 _ => k - (intOf v10).toNat)
  case atStart => exact ⟨0, Nat.zero_le _, rfl, HC.out, HG.out, Kept.refl⟩
  case round =>
    obtain ⟨i, hi, rfl, hC, hG, hK⟩ := hrel
    have Ci := Lib.hid hC
    have Gi := Lib.hid hG
    have Ki := Lib.hid hK
    clear hC hG hK HC HG
    by_cases hlt : i < k
    · have HI := Lib.hid hlt
      have hii : (i : Int) < (k : Int) := by omega
      have il : i < R.length := by omega
      obtain ⟨b, o, rfl, hb, hno, c0, c1⟩ := (HR.out.kept Ki.out) i il
      have DS := Lib.hid (show dropL l (R.take (i + 1)) = (if 0 < R[i].2 then dropE (dropL l (R.take i)) R[i].1 R[i].2 else dropL l (R.take i)) from by rw [take_snoc R i il]; exact dropL_snoc l R[i] (R.take i))
      have SR := Lib.hid (HS.out.2.2 _ (List.getElem_mem il))
      have LI := Lib.hid (And.intro (Once.dropL (R.take i) HL.out.1) (And.intro (fun e he => HL.out.2.1 e (dropL_mem (R.take i) l he)) (Nat.le_trans (dropL_le (R.take i) l) HL.out.2.2)))
      generalize dropL l (R.take i) = L at Ci Gi DS LI
      generalize R[i] = s at c0 c1 DS SR
      obtain ⟨at_, n⟩ := s
      simp only at c0 c1 DS SR
      clear hi hlt il
      have OL := Lib.hid (icO_lt Ci.out Gi.out)
      have X5 := Lib.hid (below_new' wr (.cells #[.int .i64 at_, .int .i64 n] 52))
      have B5 := Lib.hid (Blk.new wr 52 #[.int .i64 at_, .int .i64 n])
      go_upto_region 4 with fail
      have C5 := Lib.hid (Ci.out.keep (X5.out.block p Ci.out.lt))
      have G5 := Lib.hid (Gi.out.kept (O := fun _ => False) (Kept.of_below X5.out) (fun _ _ _ _ c => c))
      have K5 := Lib.hid (Ki.out.trans (Kept.of_below X5.out) Grew.refl)
      obtain ⟨g, hg⟩ : ∃ g, wr.heap.size = g := ⟨_, rfl⟩
      rw [hg] at B5 ⊢
      generalize World.alloc _ _ = w5 at B5 C5 G5 K5 ⊢
      clear Ci Gi Ki X5 OL c0 c1
      have c0 := (B5.out.cell 0).trans rfl
      have c1 := (B5.out.cell 1).trans rfl
      have k6 : (k : Int) ≤ 1000 := by omega
      by_cases hn : 0 < n
      · have hgt : n > 0 := hn
        have DS := Lib.hid (show dropL l (R.take (i + 1)) = dropE L at_ n by rw [DS.out, if_pos hn])
        have DR := Lib.hid (drop16_any pg p lv en h m at_ n L w5 C5.out G5.out LI.out.1 LI.out.2.1 LI.out.2.2 SR.out.1 SR.out.2.1 hn SR.out.2.2)
        go_wp2_with fail
        clear c0 c1
        refine DR.out.mono ?_
        rintro e w6 ⟨rfl, C6, G6, K6⟩
        have C6 := Lib.hid C6
        have G6 := Lib.hid G6
        have K6 := Lib.hid (K5.out.trans K6 Grew.refl)
        clear DR C5 G5 K5 B5
        go_wp2_with fail
        exact ⟨⟨i + 1, HI.out, rfl, by rw [DS.out]; exact C6.out, by rw [DS.out]; exact G6.out, K6.out⟩, by have := HI.out; simp [intOf]; omega⟩
      · have hle : n ≤ 0 := by omega
        have DS := Lib.hid (show dropL l (R.take (i + 1)) = L by rw [DS.out, if_neg hn])
        clear hn
        go_wp2_with fail
        exact ⟨⟨i + 1, HI.out, rfl, by rw [DS.out]; exact C5.out, by rw [DS.out]; exact G5.out, K5.out⟩, by have := HI.out; simp [intOf]; omega⟩
    · obtain rfl : i = k := by omega
      have DS := Lib.hid (show R.take i = R by rw [List.take_of_length_le (by omega)])
      rw [DS.out] at Ci Gi
      clear hi hlt
      go_wp2_with fail
      go_end0
      exact ⟨rfl, Ci.out, Gi.out, Ki.out⟩
end Go.Proofs.YtgilkbmipgejeaaDoor
/- The contract of decodeAt. -/
namespace Go.Proofs.YtgilkbmipgejeaaDoor
open Go.RowKit Num Dec
set_option linter.unusedVariables false
set_option linter.unusedSimpArgs false
set_option maxRecDepth 100000

theorem seg4 {M : List Int} (h : BtM M) (a : Int) (hM : M.length = 65536) : seg M a 4 = [(byAt M a 0 : Int), (byAt M a 1 : Int), (byAt M a 2 : Int), (byAt M a 3 : Int)] := by
  apply List.ext_getElem?
  intro j
  match j with
  | 0 => exact (byAt_is h a 0 hM (by decide)).2
  | 1 => exact (byAt_is h a 1 hM (by decide)).2
  | 2 => exact (byAt_is h a 2 hM (by decide)).2
  | 3 => exact (byAt_is h a 3 hM (by decide)).2
  | j + 4 =>
    rw [List.getElem?_eq_none (by rw [seg_len]; omega), List.getElem?_eq_none (by simp)]
theorem agg4 : AggT Tryd.prog 100 4 := ⟨⟨_, Tryd.underlying100, rfl⟩, by kernel_rfl⟩
set_option maxHeartbeats 4000000 in
theorem decodeAt_any (pm : Nat) (M : List Int) (v : Value) (a lv : Int) (w : World) (hM : M.length = 65536) (hp : MemAt pm M v w) (hB : BtM M) (hl : (Lit.int .i64 lv).wf = true) :
    Calls Tryd.prog 33 #[.pointer (some ⟨pm, 0, none⟩), .int .i64 a, .int .i64 lv] w fun e w' => e = .returned (.agg (icells (decAt M a lv))) ∧ Below w.heap.size w w' := by
  obtain ⟨k, hk⟩ : ∃ k : Nat, a % 65536 = (k : Int) := ⟨(a % 65536).toNat, by omega⟩
  have BY := Lib.hid (fun u (hb : Below w.heap.size w u) => bytes_any pm M v a k 4 u hM (hp.keep (hb.block pm hp.lt)) hk (by decide))
  have S4 := seg4 hB a hM
  have DC := Lib.hid (fun u => decode_any (byAt M a 0) (byAt M a 1) (byAt M a 2) (byAt M a 3) lv u (byAt_is hB a 0 hM (by decide)).1 (byAt_is hB a 1 hM (by decide)).1 (byAt_is hB a 2 hM (by decide)).1 (byAt_is hB a 3 hM (by decide)).1 hl)
  have E := Lib.hid (show decAt M a lv = dec (byAt M a 0) (byAt M a 1) (byAt M a 2) (byAt M a 3) lv from rfl)
  obtain ⟨I, hI⟩ : ∃ I, decAt M a lv = I := ⟨_, rfl⟩
  rw [← E.out, hI] at DC
  rw [S4] at BY
  rw [hI]
  generalize byAt M a 0 = c0 at BY DC
  generalize byAt M a 1 = c1 at BY DC
  generalize byAt M a 2 = c2 at BY DC
  generalize byAt M a 3 = c3 at BY DC
  clear S4 E hI hM hB hk hl
  have G0 := Lib.hid ((Blk.new w 38 zeroI).alloc (.cells #[.int .u8 0, .int .u8 0, .int .u8 0, .int .u8 0] 100))
  have G1 := Lib.hid (Blk.new (w.alloc (.cells zeroI 38)) 100 #[.int .u8 0, .int .u8 0, .int .u8 0, .int .u8 0])
  have B0 := Lib.hid (((Below.refl w.heap.size w).alloc (Nat.le_refl _) (.cells zeroI 38)).alloc (by simp) (.cells #[.int .u8 0, .int .u8 0, .int .u8 0, .int .u8 0] 100))
  rw [World.size_alloc] at G1
  go_enter Tryd.func33, Tryd.ntmps33
  go_upto_region 2 with fail
  unfold zeroI at G0 G1 B0
  generalize World.alloc (World.alloc _ _) _ = w1 at G0 G1 B0 ⊢
  refine wp_region_mix (C := fun w' => ∃ x : AnyW, w' = x.w) [([0, 1, 2], 3), ([], 4)] [] (by kernel_rfl) (by kernel_rfl) (fun _ _ d _ _ h => by cases d <;> exact h) (AnyW.any _) ?_
  intro wd hwd
  have G2 := Lib.hid (show Blk w.heap.size 38 _ wd by rw [hwd]; exact G0.out.drew)
  have G3 := Lib.hid (show Blk (w.heap.size + 1) 100 _ wd by rw [hwd]; exact G1.out.drew)
  have B1 := Lib.hid (show Below w.heap.size w wd by rw [hwd]; exact B0.out.drew)
  clear hwd G0 G1 B0
  refine mix_run (by simp only [opsAt, List.getElem?_toArray, List.getElem?_cons_succ, List.getElem?_cons_zero]; rfl) (by rfl) ?_
  repeat (go_big_quiet_step (fail))
  refine wpQuiet_nil ?_
  refine mix_call (by rfl) ?_
  intro K hK
  go_wp2_with fail
  refine (BY.out _ B1.out).mono ?_
  rintro e w3 ⟨g, rfl, hg, rd, b3⟩
  have G4 := Lib.hid (G2.out.step b3)
  have G5 := Lib.hid (G3.out.step b3)
  have B3 := Lib.hid (B1.out.trans (b3.mono B1.out.size))
  obtain ⟨w4, hrun, hg4, ha⟩ := run_copy_gen 3 (w.heap.size + 1) 0 4 4 (some ⟨w.heap.size + 1, 0, none⟩) (fun _ => rfl) (some ⟨g, 0, none⟩) 4 4 4 rfl [(c0 : Int), (c1 : Int), (c2 : Int), (c3 : Int)] rfl rd [.int .u8 0, .int .u8 0, .int .u8 0, .int .u8 0] 100 G5.out (by simp)
  have X4 := Lib.hid (show Blk (w.heap.size + 1) 100 (bcs c0 c1 c2 c3) w4 from hg4)
  have Y4 := Lib.hid (show Blk w.heap.size 38 _ w4 from ((ha none).block _ G4.out.lt (by omega) (fun e => by cases e)).trans G4.out)
  have B4 := Lib.hid (B3.out.trans ((ha none).below B3.out.size (by omega) (fun k hk => by cases hk)))
  clear hg4 ha G4 G5 G2 G3 B1 B3 rd b3 hg
  simp only []
  refine hK _ _ (AnyW.any _) ?_
  clear hK K
  refine mix_run (by simp only [opsAt, List.getElem?_toArray, List.getElem?_cons_succ, List.getElem?_cons_zero]; rfl) (by rfl) ?_
  refine wpQuiet_nil ?_
  refine mix_call (by rfl) ?_
  intro K hK
  refine wp_copy_run (.tmp 8) (.tmp 11) rfl 3 rfl _ _ _ (by rfl) (by rfl) hrun 12 (by rfl) ?_
  simp only [List.setIfInBounds_toArray, List.set_cons_zero, List.set_cons_succ]
  refine hK _ _ (AnyW.any _) ?_
  clear hK K hrun
  refine mix_last (by simp only [opsAt, List.getElem?_toArray, List.getElem?_cons_succ, List.getElem?_cons_zero]; rfl) ?_
  refine wpQuiet_nil ?_
  have k0 := (X4.out.cell 0).trans rfl
  have k1 := (X4.out.cell 1).trans rfl
  have k2 := (X4.out.cell 2).trans rfl
  have k3 := (X4.out.cell 3).trans rfl
  go_upto_region 3 with fail
  refine wp_region_lit ?_
  refine list_load_all agg4 X4.out rfl rfl (.tmp 7) rfl rfl ?_
  simp only [Act.put, List.setIfInBounds_toArray, List.set_cons_zero, List.set_cons_succ]
  iterate 3 go_step
  go_wp2_with fail
  refine (DC.out _).mono ?_
  rintro e w5 ⟨rfl, b5⟩
  have Y5 := Lib.hid (Y4.out.step b5)
  have B5 := Lib.hid (B4.out.trans (b5.mono B4.out.size))
  clear b5 Y4 B4 X4 k0 k1 k2 k3
  simp only []
  go_at_K
  iterate 1 go_step
  refine list_store_all aggInstr Y5.out rfl rfl (by unfold Ones icells; kernel_rfl) rfl (.tmp 6) (.tmp 15) rfl rfl rfl ?_
  simp only [Act.put, List.setIfInBounds_toArray, List.set_cons_zero, List.set_cons_succ]
  have R := Y5.out.store (icells I)
  have B := belowRow' B5.out (Nat.le_refl w.heap.size) (icells I)
  generalize World.setRow _ _ _ = w6 at R B ⊢
  go_wp2_with fail
  iterate 4 (try go_step)
  exact bodyPost_ret (results_cell_row rfl _ _ w.heap.size _ _ _ _ rfl R Tryd.underlying38 rfl aggInstr.i) rfl ⟨rfl, B⟩
end Go.Proofs.YtgilkbmipgejeaaDoor
/- The reference of layer 16: Drop. -/
namespace Go.Proofs.YtgilkbmipgejeaaDoor
open Go.RowKit Num Dec
set_option linter.unusedVariables false
set_option linter.unusedSimpArgs false

/-- The load of a whole struct of cells that are known. -/
theorem list_load_cellsI {P : Program} {ops : Array Oper} {rest : List Oper} {o : Oper} {a : Act} {w : World} {Q : Exit → Act → World → Prop} (hgd : o.guard = none) (ty : TypeId) (x : Operand) (ho : o.op = .load ty x)
    (ad : Addr) (hx : a.eval x = .pointer (some ad)) (L : List Value) (d : TypeDesc) (hc : ∀ j (h : j < L.length), w.cell? (ad.add j) = some L[j])
    (hu : P.underlying ty = some d) (hd : (match d with | .struct _ | .array _ _ => true | _ => false) = true) (hi : (P.info? ty).map (·.size) = some L.length)
    (h : wpList P ops Q rest (a.put o.dst (.agg L.toArray)) w) : wpList P ops Q (o :: rest) a w := by
  have hl : (loadCells ad L.length).run P w = .ok L.toArray w :=
    run_loadCells_list (P := P) w ad L (fun j v hv => by
      by_cases hj : j < L.length
      · rw [List.getElem?_eq_getElem hj] at hv
        rw [hc j hj]
        exact hv
      · rw [List.getElem?_eq_none (Nat.le_of_not_lt hj)] at hv
        cases hv)
  refine wpList_plain hgd fun K hK => ?_
  have hlv : (loadVar ty ad).run P w = .ok (.agg L.toArray) w := by
    cases hq : P.info? ty with
    | none => simp [hq] at hi
    | some i =>
      have hs : i.size = L.length := by simpa [hq] using hi
      have hagg : (isAgg ty).run P w = .ok true w := by
        unfold isAgg
        rw [Sem.run_bind, run_underlying hu w]
        cases d <;> simp_all
      simp [loadVar, Sem.run_bind, hagg, sizeOf, typeInfo, hq, hs, hl]
  unfold Oper.wp execOp
  simp only [ho, hx, Instr.loadAt, Instr.sureAddr, Sem.run_bind, Sem.run_pure, Result.andThen_ok, hlv]
  exact hK _ _ h
theorem infoEnt : (Tryd.prog.info? 42).map (fun i => (i.zero, i.size, i.bytes)) = some (some (.agg #[.int .i64 0, .int .i64 0, .int .i64 0, .int .i64 0, .int .i64 0, .int .i64 0, .int .i64 0, .int .i64 0]), 8, 64) := by kernel_rfl
theorem own_form8 {w : World} {base n size : Nat} {e : TypeId} {v : Value} {xs : List Value} (h : w.ownsRow base e size v n xs) : ∃ A cap, v = .slice A n cap := by
  rcases h.2 with ⟨rfl, rfl⟩ | ⟨g, cap, cur, rfl, _⟩
  · exact ⟨none, 0, rfl⟩
  · exact ⟨_, cap, rfl⟩
/-- Is one of the first j bytes in the span? -/
def hitTo (y a n : Int) : Nat → Bool
  | 0 => false
  | j + 1 => hitTo y a n j || decide ((y + (j : Int) - a) % 65536 < n)
theorem hitTo_all (y a n : Int) : hitTo y a n 4 = hitB y a n := by
  unfold hitB
  simp [hitTo, Bool.or_assoc]
theorem eflat_snoc (l : Ents) (p : Nat × Ins) : eflat (l ++ [p]) = eflat l ++ ecells p := by simp [eflat]
theorem drop_take {l : Ents} {a n : Int} {k : Nat} (h : k < l.length) : dropE (l.take (k + 1)) a n = if hitB ((l[k]).1 : Int) a n = true then dropE (l.take k) a n else dropE (l.take k) a n ++ [l[k]] := by
  unfold dropE
  rw [List.take_succ_eq_append_getElem h, List.filter_append]
  cases hb : hitB ((l[k]).1 : Int) a n <;> simp [hb]
theorem drop_len (l : Ents) (a n : Int) : (dropE l a n).length ≤ l.length := List.length_filter_le _ _
theorem cells_new8 (w : World) (L : List Value) (t : TypeId) : ∀ j u, L[j]? = some u → (w.alloc (.cells L.toArray t)).cell? ((⟨w.heap.size, 0, none⟩ : Addr).add j) = some u := by
  intro j u hj
  rw [add_pl, Nat.zero_add, cell_of_row _ _ _ _ _ _ (heap_alloc_new w _)]
  simpa using hj
theorem sumWrap {y j : Nat} {a : Int} (hy : y ≤ 65535) (hj : j ≤ 4) (a0 : -2000000 ≤ a) (a1 : a ≤ 2000000) : ∃ q r : Int, (IntKind.i64.wrap ((y : Int) + j) = q ∧ IntKind.i64.wrap (q - a) = r) ∧ r = (y : Int) + j - a := ⟨(y : Int) + j, (y : Int) + j - a, ⟨by rw [IntKind.wrap_i64]; omega, by rw [IntKind.wrap_i64]; omega⟩, rfl⟩

set_option maxRecDepth 100000 in
set_option maxHeartbeats 8000000 in
theorem rdrop_any (A : Option Addr) (n c : Nat) (l : Ents) (a m : Int) (w : World) (H : EntR w A l) (hn : l.length = n) (n1 : n ≤ 1000) (hs : ∀ p ∈ l, p.1 ≤ 65535) (a0 : -2000000 ≤ a) (a1 : a ≤ 2000000) :
    Calls Tryd.prog 22 #[.slice A n c, .int .i64 a, .int .i64 m] w fun e w' => ∃ A' c', e = .returned (.slice A' (dropE l a m).length c') ∧ w'.ownsRow w.heap.size 42 8 (.slice A' (dropE l a m).length c') (dropE l a m).length (eflat (dropE l a m)) ∧ Below w.heap.size w w' := by
  obtain ⟨i0, hi, hz0, hz1, hz2⟩ := info_parts infoEnt
  have HH := Lib.hid (And.intro H (And.intro hn (And.intro n1 hs)))
  clear H hs
  go_enter Tryd.func22, Tryd.ntmps22
  go_wp2_with fail
  go_loopw [7, 8] (fun v7 v8 wr => ∃ (k : Nat), k ≤ n ∧ v8 = .int .i64 (k : Int) ∧ wr.ownsRow w.heap.size 42 8 v7 (dropE (l.take k) a m).length (eflat (dropE (l.take k) a m)) ∧ Below w.heap.size w wr) (fun _ v8 _ => n - (intOf v8).toNat)
  case atStart => exact ⟨0, Nat.zero_le _, rfl, World.ownsRow_nil _ _ _ _, Below.refl _ _⟩
  case round =>
    obtain ⟨k, hk, rfl, ho, hb⟩ := hrel
    have HO := Lib.hid ho
    have HB := Lib.hid hb
    clear ho hb
    by_cases hlt : k < n
    · have kl : k < l.length := by have := HH.out.2.1; omega
      obtain ⟨b, rfl, hbw, hcw⟩ := HH.out.1.at_ kl
      have DT := Lib.hid (drop_take (a := a) (n := m) kl)
      have hy := HH.out.2.2.2 (l[k]'kl) (List.getElem_mem kl)
      have HK := Lib.hid (And.intro hlt kl)
      have DL := Lib.hid (show (dropE (l.take k) a m).length ≤ 1000 by have h1 := drop_len (l.take k) a m; have h2 := HH.out.2.2.1; simp at h1; omega)
      generalize l[k]'kl = p at hcw DT hy
      obtain ⟨y, I⟩ := p
      simp only at hy DT
      have hki : (k : Int) < (n : Int) := by omega
      have HC := Lib.hid (fun (w' : World) (hw : Below w.heap.size w w') j v (hv : (ecells (y, I))[j]? = some v) => (hw.cell (p := ⟨b, k * 8 + j, none⟩) hbw).trans (hcw j v hv))
      have HBW := Lib.hid hbw
      clear hcw
      generalize dropE (l.take k) a m = D at HO DT DL
      obtain ⟨wo, hwo⟩ : ∃ wo, wo = wr := ⟨_, rfl⟩
      subst hwo
      have HOo := HO
      have HBo := HB
      clear HO HB
      go_wp2_with fail
      go_loopw [9, 10] (fun v9 v10 wi => ∃ j : Nat, j ≤ 4 ∧ v10 = .int .i64 (j : Int) ∧ v9 = .bool (hitTo (y : Int) a m j) ∧ Below wo.heap.size wo wi) (fun _ v10 _ => 4 - (intOf v10).toNat)
      case atStart => exact ⟨0, Nat.zero_le _, rfl, rfl, Below.refl _ _⟩
      case round =>
        obtain ⟨j, hj, rfl, rfl, hb⟩ := hrel
        have HBi := Lib.hid hb
        clear hb
        by_cases hj4 : j < 4
        · have HJ := Lib.hid hj4
          have hji : (j : Int) < 4 := by omega
          have HS := Lib.hid (show hitTo (y : Int) a m (j + 1) = (hitTo (y : Int) a m j || decide (((y : Int) + (j : Int) - a) % 65536 < m)) from rfl)
          generalize hitTo (y : Int) a m j = hb at HS
          cases hb
          · have c0 := HC.out wr (HBo.out.trans (HBi.out.mono HBo.out.size)) 0 _ rfl
            rw [Nat.add_zero] at c0
            obtain ⟨z, hz⟩ : ∃ z : Nat, ((y : Int) + (j : Int) - a) % 65536 = (z : Int) := ⟨(((y : Int) + (j : Int) - a) % 65536).toNat, by omega⟩
            obtain ⟨q, r, SW, hr⟩ := sumWrap hy (Nat.le_of_lt hj4) a0 a1
            have SW := Lib.hid SW
            have MO := Lib.hid (fun w => mmod_any r z w (by rw [hr]; exact hz))
            rw [hz] at HS
            have hbr : b < wr.heap.size := Nat.lt_of_lt_of_le HBW.out (HBo.out.trans (HBi.out.mono HBo.out.size)).size
            clear hz hr hj hj4 hk hlt
            by_cases hzm : (z : Int) < m
            · have HS := Lib.hid (show hitTo (y : Int) a m (j + 1) = true by rw [HS.out, decide_eq_true hzm]; rfl)
              obtain ⟨s1, s2⟩ := SW.out
              go_wp2_with fail
              refine (MO.out _).mono ?_
              rintro e w5 ⟨rfl, rfl⟩
              clear s1 s2
              go_wp2_with fail
              exact ⟨⟨j + 1, HJ.out, rfl, by rw [HS.out], HBi.out⟩, by have := HJ.out; simp [intOf]; omega⟩
            · have HS := Lib.hid (show hitTo (y : Int) a m (j + 1) = false by rw [HS.out, decide_eq_false hzm]; rfl)
              obtain ⟨s1, s2⟩ := SW.out
              go_wp2_with fail
              refine (MO.out _).mono ?_
              rintro e w5 ⟨rfl, rfl⟩
              clear s1 s2
              go_wp2_with fail
              exact ⟨⟨j + 1, HJ.out, rfl, by rw [HS.out, decide_eq_false (by omega)], HBi.out⟩, by have := HJ.out; simp [intOf]; omega⟩
          · have HS := Lib.hid (show hitTo (y : Int) a m (j + 1) = true by rw [HS.out]; rfl)
            clear hj hj4
            go_wp2_with fail
            exact ⟨⟨j + 1, HJ.out, rfl, by rw [HS.out], HBi.out⟩, by have := HJ.out; simp [intOf]; omega⟩
        · obtain rfl : j = 4 := by omega
          rw [hitTo_all]
          have BW := Lib.hid (HBo.out.trans (HBi.out.mono HBo.out.size))
          have OW := Lib.hid (own_apart (p := wo.heap.size) (g := none) HOo.out (Apart.of_below HBi.out) (fun h => Nat.lt_irrefl _ (HOo.out.lt _ h).2) (fun k hk => by cases hk))
          clear hj hj4
          generalize hitB (y : Int) a m = hb at DT
          cases hb
          · have DT := Lib.hid (DT.out.trans (if_neg (by decide)))
            have hcc : ∀ j (h : j < (ecells (y, I)).length), wr.cell? ((⟨b, k * 8, none⟩ : Addr).add j) = some (ecells (y, I))[j] := fun j h => by
              rw [add_pl]
              exact HC.out wr BW.out j _ (List.getElem?_eq_getElem h)
            have hbr : b < wr.heap.size := Nat.lt_of_lt_of_le HBW.out BW.out.size
            clear hk hlt
            go_upto_region 11 with fail
            refine wp_region_lit ?_
            iterate 12 go_step
            refine list_load_cellsI rfl 42 (.tmp 41) rfl _ rfl (ecells (y, I)) _ hcc Tryd.underlying42 rfl (by kernel_rfl) ?_
            simp only [ecells]
            iterate 3 go_step
            refine wpList_append_own _ rfl (.tmp 38) (.tmp 43) 34 rfl w.heap.size 42 i0 (.agg #[.int .i64 0, .int .i64 0, .int .i64 0, .int .i64 0, .int .i64 0, .int .i64 0, .int .i64 0, .int .i64 0]) 8 64 Tryd.underlying34 hi hz0 hz1 hz2 rfl (by decide) _ _ _ rfl (OW.out.alloc _) ⟨_, 0, none⟩ 1 1 (ecells (y, I)) rfl rfl (cells_new8 _ _ _) (by simp [ecells, Value.oneCell']) (by have := DL.out; unfold maxLen; omega) (by have := DL.out; omega) (by have := BW.out.size; simp; omega) ?_
            intro v' w1 hown' hgrow _
            have OX := Lib.hid hown'
            have BX := Lib.hid ((BW.out.alloc BW.out.size (.cells (ecells (y, I)).toArray 42)).grown hgrow (by have := BW.out.size; simp; omega) (fun j hj => (OW.out.lt j hj).1))
            clear hown' hgrow hcc
            simp only [Act.put, List.setIfInBounds_toArray, List.set_cons_zero, List.set_cons_succ]
            iterate 4 go_step
            go_wp2_with fail
            exact ⟨⟨k + 1, HK.out.1, rfl, by rw [DT.out, eflat_snoc, List.length_append]; exact OX.out, BX.out⟩, by have := HK.out.1; simp [intOf]; omega⟩
          · have DT := Lib.hid (DT.out.trans (if_pos rfl))
            clear hk hlt
            go_wp2_with fail
            exact ⟨⟨k + 1, HK.out.1, rfl, by rw [DT.out]; exact OW.out, BW.out⟩, by have := HK.out.1; simp [intOf]; omega⟩
    · obtain rfl : k = n := by omega
      have DT := Lib.hid (show dropE (l.take k) a m = dropE l a m by rw [List.take_of_length_le (by have := HH.out.2.1; omega)])
      rw [DT.out] at HO
      clear hk hlt
      obtain ⟨D, hD⟩ : ∃ D, dropE l a m = D := ⟨_, rfl⟩
      rw [hD] at HO
      have HD := Lib.hid hD
      clear hD
      obtain ⟨A4, c4, rfl⟩ := own_form8 HO.out
      go_wp2_with fail
      go_ret
      obtain hD := HD.out
      subst hD
      exact ⟨A4, c4, rfl, HO.out, HB.out⟩
end Go.Proofs.YtgilkbmipgejeaaDoor
