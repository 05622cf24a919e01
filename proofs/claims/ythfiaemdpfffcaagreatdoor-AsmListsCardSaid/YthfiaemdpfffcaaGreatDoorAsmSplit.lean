/- Splitting a text at its blanks. Nothing of the program. -/
import GoSem.Core.Utf8
import Derived.Lib.DecodeN
import Derived.Laws.RangeAny
import Derived.Test.YthfiaemdpfffcaaGreatDoorRow
import Derived.Lib.OthersKept
import Derived.Laws.AppendOwn
import Derived.Lib.Hide
import Derived.Handy
import Derived.KernelRfl
import Derived.LoopTactic
namespace Go.Proofs.YthfiaemdpfffcaaGreatDoor.Num
set_option linter.unusedVariables false
set_option linter.unusedSimpArgs false

/-- Bytes ahead of the first part. -/
def glue (p : List UInt8) : List (List UInt8) → List (List UInt8)
  | [] => [p]
  | h :: t => (p ++ h) :: t
/-- The parts between blanks. -/
def spl : List UInt8 → List (List UInt8)
  | [] => [[]]
  | c :: cs => if c = 32 then [] :: spl cs else glue [c] (spl cs)
theorem spl_ne : ∀ l : List UInt8, spl l ≠ []
  | [] => by simp [spl]
  | c :: cs => by
    unfold spl
    split
    · simp
    · cases spl cs <;> simp [glue]
theorem glue_nil {L : List (List UInt8)} (h : L ≠ []) : glue [] L = L := by cases L <;> simp_all [glue]
theorem glue_glue (p q : List UInt8) (L : List (List UInt8)) : glue p (glue q L) = glue (p ++ q) L := by cases L <;> simp [glue]
theorem spl_blank (cs : List UInt8) : spl (32 :: cs) = [] :: spl cs := by
  rw [spl, if_pos rfl]
theorem spl_cons {c : UInt8} (h : c ≠ 32) (cs : List UInt8) : spl (c :: cs) = glue [c] (spl cs) := by
  rw [spl, if_neg h]
theorem spl_run : ∀ (l r : List UInt8), (∀ c ∈ l, c ≠ 32) → spl (l ++ r) = glue l (spl r)
  | [], r, _ => (glue_nil (spl_ne r)).symm
  | c :: l, r, h => by
    rw [List.cons_append, spl_cons (h c (by simp)), spl_run l r (fun d hd => h d (by simp [hd])), glue_glue]
    rfl
/-- How far the loop has come: the parts so far, where the part at hand starts, and where it stands. -/
def SplAt (bs : List UInt8) (P : List (List UInt8)) (start pos : Nat) : Prop := start ≤ pos ∧ pos ≤ bs.length ∧ P.length ≤ pos ∧ spl bs = P ++ glue ((bs.drop start).take (pos - start)) (spl (bs.drop pos))
theorem splAt_start (bs : List UInt8) : SplAt bs [] 0 0 := ⟨Nat.le_refl _, Nat.zero_le _, Nat.le_refl _, by simp [glue_nil (spl_ne bs)]⟩
theorem seg_more (bs : List UInt8) (start pos k : Nat) (h : start ≤ pos) (hk : pos + k ≤ bs.length) : (bs.drop start).take (pos + k - start) = (bs.drop start).take (pos - start) ++ (bs.drop pos).take k := by
  rw [show pos + k - start = (pos - start) + k by omega, List.take_add, List.drop_drop, show start + (pos - start) = pos by omega]
theorem SplAt.run {bs : List UInt8} {P : List (List UInt8)} {start pos : Nat} (h : SplAt bs P start pos) (k : Nat) (hk : pos + k ≤ bs.length) (hn : ∀ c ∈ (bs.drop pos).take k, c ≠ 32) : SplAt bs P start (pos + k) := by
  obtain ⟨h1, h2, h3, h4⟩ := h
  refine ⟨by omega, hk, by omega, ?_⟩
  have e : bs.drop pos = (bs.drop pos).take k ++ bs.drop (pos + k) := by rw [← List.drop_drop, List.take_append_drop]
  rw [h4, seg_more bs start pos k h1 hk, ← glue_glue, ← spl_run _ _ hn, ← e]
theorem SplAt.blank {bs : List UInt8} {P : List (List UInt8)} {start pos : Nat} (h : SplAt bs P start pos) (hk : pos < bs.length) (hc : bs[pos] = 32) : SplAt bs (P ++ [(bs.drop start).take (pos - start)]) (pos + 1) (pos + 1) := by
  obtain ⟨h1, h2, h3, h4⟩ := h
  refine ⟨Nat.le_refl _, by omega, by simp; omega, ?_⟩
  rw [h4, List.drop_eq_getElem_cons hk, hc, spl_blank, Nat.sub_self, List.take_zero, glue_nil (spl_ne _)]
  show P ++ (_ ++ []) :: _ = _
  simp
theorem SplAt.last {bs : List UInt8} {P : List (List UInt8)} {start pos : Nat} (h : SplAt bs P start pos) (he : pos = bs.length) : spl bs = P ++ [bs.drop start] := by
  obtain ⟨h1, h2, h3, h4⟩ := h
  subst he
  rw [h4, List.drop_eq_nil_of_le (Nat.le_refl _), List.take_of_length_le (by simp)]
  simp [spl, glue]
/-- A rune of more than one byte: no blank in it. -/
theorem decodeN_wide (n b0 b1 b2 b3 : Nat) (hn : 1 ≤ n) (h0 : 128 ≤ b0) : 1 ≤ (Lib.decodeN n b0 b1 b2 b3).2 ∧ (Lib.decodeN n b0 b1 b2 b3).2 ≤ n ∧ (Lib.decodeN n b0 b1 b2 b3).2 ≤ 4 ∧ (2 ≤ (Lib.decodeN n b0 b1 b2 b3).2 → 128 ≤ b1) ∧ (3 ≤ (Lib.decodeN n b0 b1 b2 b3).2 → 128 ≤ b2) ∧ (4 ≤ (Lib.decodeN n b0 b1 b2 b3).2 → 128 ≤ b3) := by
  unfold Lib.decodeN
  rw [if_neg (by omega)]
  split
  · split <;> simp only <;> omega
  · split
    · split <;> simp only <;> omega
    · split
      · split <;> simp only <;> omega
      · simp only; omega
theorem get_byte (s : ByteArray) (i : Nat) (h : i < s.data.toList.length) : s.get! i = s.data.toList[i] := by
  have hs : i < s.size := by simpa using h
  have := get_at s i hs
  simp at this
  rw [this]
  rfl
theorem decode_wide (s : ByteArray) (pos : Nat) (h : pos < s.size) (ha : 128 ≤ (s[pos]'h).toNat) : pos + (Utf8.decode s pos).2 ≤ s.data.toList.length ∧ ∀ c ∈ (s.data.toList.drop pos).take (Utf8.decode s pos).2, c ≠ 32 := by
  have hl : s.data.toList.length = s.size := by simp
  have hg0 : s.get! pos = s[pos]'h := by simpa using get_at s pos h
  have hw := decodeN_wide (s.size - pos) (s.get! pos).toNat (s.get! (pos + 1)).toNat (s.get! (pos + 2)).toNat (s.get! (pos + 3)).toNat (by omega) (by rw [hg0]; exact ha)
  rw [← Lib.decode_at] at hw
  generalize (Utf8.decode s pos).2 = k at hw ⊢
  obtain ⟨w1, w2, w3, w4, w5, w6⟩ := hw
  refine ⟨by omega, fun c hc => ?_⟩
  obtain ⟨j, hj, rfl⟩ := List.getElem_of_mem hc
  have hjk : j < k := by simp at hj; omega
  have hjl : pos + j < s.data.toList.length := by omega
  rw [List.getElem_take, List.getElem_drop]
  intro e
  have hb := get_byte s (pos + j) hjl
  rw [e] at hb
  have h128 : 128 ≤ (s.get! (pos + j)).toNat := by
    have : j = 0 ∨ j = 1 ∨ j = 2 ∨ j = 3 := by omega
    rcases this with rfl | rfl | rfl | rfl
    · rw [Nat.add_zero, hg0]; exact ha
    · exact w4 (by omega)
    · exact w5 (by omega)
    · exact w6 (by omega)
  rw [hb] at h128
  have : (32 : UInt8).toNat = 32 := rfl
  omega
end Go.Proofs.YthfiaemdpfffcaaGreatDoor.Num
/- split: the parts of a text between its blanks. -/
namespace Go.Proofs.YthfiaemdpfffcaaGreatDoor
open Go.RowKit Num
set_option linter.unusedVariables false
set_option linter.unusedSimpArgs false

theorem infoStr : (Tryz.prog.info? 9).map (fun i => (i.zero, i.size, i.bytes)) = some (some (.string ⟨#[]⟩), 1, 16) := by kernel_rfl
theorem cell_one_str (w : World) (x : Value) (t : TypeId) : ∀ j u, [x][j]? = some u → (w.alloc (.cells #[x] t)).cell? ((⟨w.heap.size, 0, none⟩ : Addr).add j) = some u := by
  intro j u hj
  match j, hj with
  | 0, hj => simp at hj; subst hj; simp [Addr.add]
  | (j + 1), hj => simp at hj
section
variable {w w' : World} {B e size n k pos : Nat} {v : Value} {xs : List Value} {s : ByteArray}
theorem ownIter (h : w.ownsRow B e size v n xs) (hk : w.heap[k]? = some (.stringIter s pos)) (p : Nat) : (w.iterAt k s p).ownsRow B e size v n xs := by
  obtain ⟨h1, h2⟩ := h
  refine ⟨h1, h2.imp id fun ⟨g, cap, cur, hv, hb, hg, rest⟩ => ⟨g, cap, cur, hv, hb, ?_, rest⟩⟩
  have hne : g ≠ k := fun e => by rw [e, hk] at hg; cases hg
  exact (Lib.iterAt_other w k g s p hne).trans hg
theorem ownNotIter (h : w.ownsRow B e size v n xs) (hk : w.heap[k]? = some (.stringIter s pos)) : some k ≠ v.ownBlock := by
  rcases h.2 with ⟨rfl, _⟩ | ⟨g, cap, cur, rfl, _, hg, _⟩
  · exact fun e => by cases e
  · intro e
    have e : k = g := by simpa [Value.ownBlock] using e
    rw [← e, hk] at hg
    cases hg
theorem iterPos_of (hk : w.heap[k]? = some (.stringIter s pos)) : w.iterPos k = pos := by
  unfold World.iterPos
  rw [hk]
end
/-- A new slice of strings. -/
def GotStr (L : List ByteArray) (w : World) (e : Ending) (w' : World) : Prop := ∃ A c, e = .returned (.slice A L.length c) ∧ w'.ownsRow w.heap.size 9 1 (.slice A L.length c) L.length (L.map Value.string) ∧ Below w.heap.size w w'
def bytesOf (L : List ByteArray) : List (List UInt8) := L.map (·.data.toList)

set_option maxRecDepth 100000 in
set_option maxHeartbeats 4000000 in
theorem split_parts (s : ByteArray) (hs : s.size ≤ 1000000) (w : World) : Calls Tryz.prog 46 #[.string s] w fun e w' => ∃ L, bytesOf L = spl s.data.toList ∧ GotStr L w e w' := by
  obtain ⟨i0, hi, hz0, hz1, hz2⟩ := info_parts infoStr
  have hlen : s.data.toList.length = s.size := by simp
  obtain ⟨n, hn⟩ : ∃ n, s.size = n := ⟨_, rfl⟩
  rw [hn] at hs hlen
  go_enter Tryz.func46, Tryz.ntmps46
  go_wp2
  go_loopw [3, 4] (fun v3 v4 wr => ∃ (pos start : Nat) (L : List ByteArray), v4 = .int .i64 (start : Int) ∧ wr.ownsRow w.heap.size 9 1 v3 L.length (L.map Value.string) ∧ wr.heap[w.heap.size]? = some (.stringIter s pos) ∧ Below w.heap.size w wr ∧ SplAt s.data.toList (bytesOf L) start pos) (fun _ _ wr => n - wr.iterPos w.heap.size)
  case atStart => exact ⟨0, 0, [], rfl, World.ownsRow_nil _ _ _ _, World.iter_heap w s 0, (Below.refl _ _).alloc (Nat.le_refl _) _, splAt_start _⟩
  case round =>
    obtain ⟨pos, start, L, rfl, hown, hit, hb, hsp⟩ := hrel
    have HS := Lib.hid hsp
    have hps : start ≤ pos := hsp.1
    have hpn : pos ≤ n := by have := hsp.2.1; omega
    have hLn : L.length ≤ pos := by have := hsp.2.2.1; simpa [bytesOf] using this
    clear hsp
    by_cases hlt : pos < n
    · have hlt' : pos < s.size := by omega
      by_cases ha : (s[pos]'hlt').toNat < 128
      · have hnx : ∀ ty, (Instr.next (.pointer (some ⟨w.heap.size, 0, none⟩)) true ty).run Tryz.prog wr = _ := fun ty => Lib.run_next_ascii_at wr w.heap.size s pos ty hit hlt' ha
        have hit2 := Lib.iterAt_heap wr w.heap.size s pos (pos + 1) hit
        have hb2 := Lib.below_iterAt hb (k := w.heap.size) (Nat.le_refl _) s (pos + 1)
        have hown2 := ownIter hown hit (pos + 1)
        have HC := Lib.hid (show ∀ h, s.data.toList[pos]'h = s[pos]'hlt' from fun _ => rfl)
        generalize s[pos]'hlt' = c at hnx HC ha
        generalize wr.iterAt w.heap.size s (pos + 1) = W at hnx hit2 hb2 hown2
        have hW : w.heap.size < W.heap.size := (Array.getElem?_eq_some_iff.1 hit2).1
        clear hown hb hlt'
        have hpm := iterPos_of hit
        clear hit
        by_cases h32 : c.toNat = 32
        · have HC := Lib.hid (fun h => (HC.out h).trans (show c = 32 from UInt8.toNat_inj.1 h32))
          have HX := Lib.hid (show (s.extract start pos).data.toList = (s.data.toList.drop start).take (pos - start) by rw [ByteArray.data_extract, Array.toList_extract])
          generalize c.toNat = r at *
          subst h32
          clear ha
          go_wp2_with (at_builtin; refine wpList_append_own _ rfl (.tmp 15) (.tmp 20) 24 rfl w.heap.size 9 i0 (.string ⟨#[]⟩) 1 16 Tryz.underlying24 hi hz0 hz1 hz2 rfl (by decide) _ _ _ rfl (hown2.alloc _) ⟨_, 0, none⟩ 1 1 [.string (s.extract start pos)] rfl rfl (cell_one_str _ _ _) (by simp [Value.oneCell']) (by unfold maxLen; omega) (by omega) (by have := hb2.size; simp; omega) ?_; intro v' w1 hown' hgrow _)
          have hit3 := (hgrow.block w.heap.size (by simp; omega) (ownNotIter hown2 hit2)).trans ((Below.heap_alloc _ _ _ hW).trans hit2)
          go_roundw
          case rel =>
            refine ⟨pos + 1, pos + 1, L ++ [s.extract start pos], rfl, by simpa using hown', hit3, ?_, ?_⟩
            · exact (hb2.alloc hb2.size _).grown hgrow (by have := hb2.size; simp; omega) (fun j hj => (hown2.lt j hj).1)
            · have := HS.out.blank (by omega) (HC.out _)
              rw [← HX.out] at this
              simpa [bytesOf] using this
          case measure =>
            rw [iterPos_of hit3, hpm]
            omega
        · have HR := Lib.hid (HS.out.run 1 (by omega) (fun d hd => by
            rw [List.drop_eq_getElem_cons (by omega), HC.out] at hd
            simp at hd
            subst hd
            intro e
            apply h32
            rw [e]
            rfl))
          generalize c.toNat = r at *
          have hr : ¬ (r : Int) = 32 := by omega
          clear h32 HC
          go_wp2
          go_roundw
          case rel => exact ⟨pos + 1, start, L, rfl, hown2, hit2, hb2, HR.out⟩
          case measure =>
            rw [iterPos_of hit2, hpm]
            omega
      · have hw := decode_wide s pos hlt' (by omega)
        have hd := decode_high s pos hlt' (by omega)
        have hnx : ∀ ty, (Instr.next (.pointer (some ⟨w.heap.size, 0, none⟩)) true ty).run Tryz.prog wr = _ := fun ty => Lib.run_next_any_at wr w.heap.size s pos ty hit hlt'
        obtain ⟨R, hR⟩ : ∃ R, (Utf8.decode s pos).1 = R := ⟨_, rfl⟩
        obtain ⟨K, hK⟩ : ∃ K, (Utf8.decode s pos).2 = K := ⟨_, rfl⟩
        rw [hR, hK] at hnx hd
        rw [hK] at hw
        have HR := Lib.hid (HS.out.run K hw.1 hw.2)
        have hwn : pos + K ≤ n := by have := hw.1; omega
        obtain ⟨hr128, hk1⟩ := hd
        clear hw hR hK ha
        have hit2 := Lib.iterAt_heap wr w.heap.size s pos (pos + K) hit
        have hb2 := Lib.below_iterAt hb (k := w.heap.size) (Nat.le_refl _) s (pos + K)
        have hown2 := ownIter hown hit (pos + K)
        generalize wr.iterAt w.heap.size s (pos + K) = W at hnx hit2 hb2 hown2
        clear hown hb hlt'
        have hpm := iterPos_of hit
        clear hit
        have hr : ¬ (R : Int) = 32 := by omega
        go_wp2
        go_roundw
        case rel => exact ⟨pos + K, start, L, rfl, hown2, hit2, hb2, HR.out⟩
        case measure =>
          rw [iterPos_of hit2, hpm]
          omega
    · have hpe : pos = n := by omega
      have HL := Lib.hid (HS.out.last (by omega))
      have hnx : ∀ ty, (Instr.next (.pointer (some ⟨w.heap.size, 0, none⟩)) true ty).run Tryz.prog wr = _ := fun ty => Lib.run_next_end_at wr w.heap.size s pos ty hit (by omega)
      have HX := Lib.hid (show (s.extract start n).data.toList = s.data.toList.drop start by rw [ByteArray.data_extract, Array.toList_extract, ← hn]; show (s.data.toList.drop start).take (s.size - start) = _; rw [List.take_of_length_le (by simp)])
      clear hit
      go_wp2_with (at_builtin; refine wpList_append_own _ rfl (.tmp 24) (.tmp 28) 24 rfl w.heap.size 9 i0 (.string ⟨#[]⟩) 1 16 Tryz.underlying24 hi hz0 hz1 hz2 rfl (by decide) _ _ _ rfl (hown.alloc _) ⟨_, 0, none⟩ 1 1 [.string (s.extract start n)] rfl rfl (cell_one_str _ _ _) (by simp [Value.oneCell']) (by unfold maxLen; omega) (by omega) (by have := hb.size; simp; omega) ?_; intro v' w1 hown' hgrow _)
      go_ret
      obtain ⟨A, c, rfl⟩ := own_form hown'
      refine ⟨L ++ [s.extract start n], ?_, A, c, by simp, by simpa using hown', ?_⟩
      · rw [HL.out, ← HX.out]
        simp [bytesOf]
      · exact (hb.alloc hb.size _).grown hgrow (by have := hb.size; simp; omega) (fun j hj => (hown.lt j hj).1)
end Go.Proofs.YthfiaemdpfffcaaGreatDoor
