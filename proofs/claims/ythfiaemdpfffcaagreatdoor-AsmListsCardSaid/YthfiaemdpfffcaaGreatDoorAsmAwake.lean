/- What assembling hands back where the texts are known, and the examples of the laws. -/
import Derived.Test.YthfiaemdpfffcaaGreatDoorAsmRead
import Derived.Test.YthfiaemdpfffcaaGreatDoorAsmFst
import Derived.Test.YthfiaemdpfffcaaGreatDoorSame
import Derived.Test.YthfiaemdpfffcaaGreatDoorAsmTexts
namespace Go.Proofs.YthfiaemdpfffcaaGreatDoor
open Go.RowKit Num Dec
set_option linter.unusedVariables false
set_option linter.unusedSimpArgs false

theorem maps_inj {l m : Int} : ∀ {I J : List Ins}, (∀ i ∈ I, Lg l i) → (∀ i ∈ J, Lg m i) → I.map txtL = J.map txtL → I = J
  | [], [], _, _, _ => rfl
  | [], _ :: _, _, _, h => by simp at h
  | _ :: _, [], _, _, h => by simp at h
  | i :: I, j :: J, hi, hj, h => by
    rw [List.map_cons, List.map_cons] at h
    injection h with h1 h2
    rw [txt_inj (hi i (by simp)) (hj j (by simp)) h1, maps_inj (fun k hk => hi k (List.mem_cons_of_mem _ hk)) (fun k hk => hj k (List.mem_cons_of_mem _ hk)) h2]
theorem text_at {L : List ByteArray} {I : List Ins} {j k : Nat} (h : bytesOf (L.take j) = I.map txtL) (hk : k < j) (hj : k < L.length) : ∃ i ∈ I, txtL i = L[k].data.toList := by
  have e : (bytesOf (L.take j))[k]? = some L[k].data.toList := by
    unfold bytesOf
    rw [List.getElem?_map, List.getElem?_take, if_pos hk, List.getElem?_eq_getElem hj]
    rfl
  rw [h, List.getElem?_map] at e
  cases hi : I[k]? with
  | none => rw [hi] at e; cases e
  | some i =>
    rw [hi] at e
    injection e with e
    exact ⟨i, List.mem_of_getElem? hi, e⟩
theorem AsmR.yes {l : Int} {L : List ByteArray} {w w' : World} {e : Ending} (h : AsmR l L w e w') (J : List Ins) (hg : ∀ i ∈ J, Lg l i) (ht : bytesOf L = J.map txtL) :
    ∃ A c, e = .returned (.tuple #[.slice A (codes J).length c, .int .i64 0, .int .i64 0]) ∧ w'.ownsRow w.heap.size 5 1 (.slice A (codes J).length c) (codes J).length ((codes J).map (Value.int .u8)) ∧ Below w.heap.size w w' := by
  rcases h with ⟨I, hI, h⟩ | ⟨I, j, hI, ⟨hj, hx⟩, _⟩
  · have e := hI.2.2.2
    rw [List.take_of_length_le (Nat.le_refl _), ht] at e
    rw [maps_inj hg hI.2.2.1 e]
    exact h
  · obtain ⟨i, hi, ht⟩ := text_at (k := j) (j := L.length) (by rw [List.take_of_length_le (Nat.le_refl _)]; exact ht) hj hj
    exact absurd ht (hx i (hg i hi))
theorem AsmR.no {l : Int} {L : List ByteArray} {w w' : World} {e : Ending} (h : AsmR l L w e w') (J : List Ins) (j : Nat) (hg : ∀ i ∈ J, Lg l i) (ht : bytesOf (L.take j) = J.map txtL) (hj : j < L.length) (hx : ∀ i, Lg l i → txtL i ≠ L[j].data.toList) :
    e = .returned (.tuple #[.slice none 0 0, .int .i64 (j : Nat), .int .i64 6]) ∧ Below w.heap.size w w' := by
  rcases h with ⟨I, hI, h⟩ | ⟨I, k, hI, ⟨hk, hy⟩, he, hb⟩
  · obtain ⟨i, hi, ht⟩ := text_at hI.2.2.2 hj hj
    exact absurd ht (hx i (hI.2.2.1 i hi))
  · have : k = j := by
      rcases Nat.lt_trichotomy k j with h | h | h
      · obtain ⟨i, hi, ht⟩ := text_at ht h hk
        exact absurd ht (hy i (hg i hi))
      · exact h
      · obtain ⟨i, hi, ht⟩ := text_at hI.2.2.2 h hj
        exact absurd ht (hx i (hI.2.2.1 i hi))
    subst this
    exact ⟨he, hb⟩
theorem ParF.yes {s : List UInt8} {l : Int} {e : Ending} (h : ParF s l e) {i : Ins} (hi : Lg l i) (ht : txtL i = s) : e = .returned (.tuple #[.agg (icells i), .int .i64 0]) := by
  rcases h with ⟨j, hj, hs, he⟩ | ⟨hn, _⟩
  · rw [txt_inj hi hj (ht.trans hs.symm)]
    exact he
  · exact absurd ht (hn i hi)
theorem ParF.no {s : List UInt8} {l : Int} {e : Ending} (h : ParF s l e) (hn : ∀ i, Lg l i → txtL i ≠ s) : e = .returned (.tuple #[.agg zeroI, .int .i64 6]) := by
  rcases h with ⟨j, hj, hs, he⟩ | ⟨_, he⟩
  · exact absurd hs (hn j hj)
  · exact he
/-! ### The examples -/
def xDraw : Ins := ⟨23, 1, 2, 3, 0, 0, 2⟩
def xExit : Ins := ⟨38, 0, 0, 0, 0, 0, 2⟩
def xLong : Ins := ⟨48, 0, 0, 0, 0, 4660, 4⟩
def xJump : Ins := ⟨21, 5, 0, 0, 0, 1451, 2⟩
def sLong : List UInt8 := [108, 111, 110, 103, 105, 32, 49, 50, 51, 52]
def sDraw : List UInt8 := [100, 114, 97, 119, 32, 86, 49, 32, 86, 50, 32, 51]
def sWrong : List UInt8 := [100, 114, 97, 119, 32, 118, 49, 32, 86, 50, 32, 51]
def sJump : List UInt8 := [106, 117, 109, 112, 97, 100, 100, 32, 53, 65, 66]
theorem lgDraw1 : Lg 1 xDraw := ⟨209, 35, 0, 0, by decide, by decide, by decide, by decide, by decide +kernel, by decide +kernel⟩
theorem lgDraw : Lg 3 xDraw := lgDraw1.mono (by decide) (by decide)
theorem lgLong : Lg 3 xLong := ⟨240, 0, 18, 52, by decide, by decide, by decide, by decide, by decide +kernel, by decide +kernel⟩
theorem lgJump : Lg 1 xJump := ⟨181, 171, 0, 0, by decide, by decide, by decide, by decide, by decide +kernel, by decide +kernel⟩
theorem noExit : ¬ Lg 1 xExit := fun h => by
  have hb := h.back.2.2.2.1
  rw [show encN xExit = 253 by decide +kernel, show ok (253 / 256) (253 % 256) 1 = false by decide +kernel] at hb
  cases hb
theorem tDraw : txtL xDraw = sDraw := by decide +kernel
theorem tLong : txtL xLong = sLong := by decide +kernel
theorem tJump : txtL xJump = sJump := by decide +kernel
theorem cDraw : codeL xDraw = [209, 35] := by decide +kernel
theorem cBoth : codes [xLong, xDraw] = [240, 0, 18, 52, 209, 35] := by decide +kernel
theorem noWrong (i : Ins) (h : Lg 3 i) : txtL i ≠ sWrong := by
  intro e
  obtain ⟨r, x, y, n, nn, a, m⟩ := h.made
  have hw := m.fst
  rw [e, show fstL sWrong = wdL 23 by decide +kernel] at hw
  have ho := wd_inj ⟨23, by decide⟩ ⟨r.op, by have := m.top; omega⟩ hw
  simp only [Fin.mk.injEq] at ho
  have hr := m.rule
  rw [← ho] at hr
  have ht := m.txt
  rw [e, ← ho, ← hr, show (ruleOf 23).pk = Pk.pXYN by decide +kernel, show wdL 23 = [100, 114, 97, 119] by decide +kernel] at ht
  have h5 := congrArg (fun l : List UInt8 => l[5]?) ht
  simp [sWrong, opsL, vL] at h5
theorem lData : linesA 3 [0, 0, 0] = [[100, 97, 116, 97, 32, 48, 48, 48, 48], [100, 97, 116, 97, 32, 48, 48]] := by decide +kernel
end Go.Proofs.YthfiaemdpfffcaaGreatDoor
/- awake: the examples of layer 15. -/
namespace Go.Proofs.YthfiaemdpfffcaaGreatDoor
open Go.RowKit Num Dec
set_option linter.unusedVariables false
set_option linter.unusedSimpArgs false

theorem wf1 : (Lit.int .i64 1).wf = true := by decide
theorem encode_draw (w : World) (hL : AL w) : Calls Tryz.prog 10 #[.agg #[.int .i64 23, .int .i64 1, .int .i64 2, .int .i64 3, .int .i64 0, .int .i64 0, .int .i64 2], .int .i64 1] w fun e w' => ∃ A c, e = .returned (.tuple #[.slice A 2 c, .int .i64 0]) ∧ Rd w' A [209, 35] ∧ Below w.heap.size w w' := by
  refine (encode_any xDraw 1 wf1 w hL).mono fun e w' h => ?_
  rcases h with ⟨_, A, c, he, ho, hb⟩ | ⟨hn, _⟩
  · rw [cDraw] at he ho
    exact ⟨A, c, he, Rd.of_row (Row.of_own ho), hb⟩
  · exact absurd lgDraw1 hn
theorem encode_exit (w : World) (hL : AL w) : Calls Tryz.prog 10 #[.agg #[.int .i64 38, .int .i64 0, .int .i64 0, .int .i64 0, .int .i64 0, .int .i64 0, .int .i64 2], .int .i64 1] w fun e w' => e = .returned (.tuple #[.slice none 0 0, .int .i64 5]) ∧ Below w.heap.size w w' := by
  refine (encode_any xExit 1 wf1 w hL).mono fun e w' h => ?_
  rcases h with ⟨hy, _⟩ | ⟨_, he⟩
  · exact absurd hy noExit
  · exact he
theorem below_past {w w' : World} {o : Obj} (h : Below (w.alloc o).heap.size (w.alloc o) w') : Below w.heap.size w w' := (below_new' w o).trans (h.mono (by simp))
theorem same_eq (A B : Option Addr) (c d n : Nat) (L : List Int) (w : World) (hn : L.length = n) (n1 : n ≤ 1000000) (hA : Rd w A L) (hB : Rd w B L) :
    Calls Tryz.prog 9 #[.slice A n c, .slice B n d] w fun e w' => e = .returned (.bool true) ∧ Below w.heap.size w w' := by
  have h := same2_any A B c d n n L L w hn hn n1 n1 hA hB
  simpa using h
theorem two_row {w : World} {b : Nat} {s t : ByteArray} {T : TypeId} (h : Blk b T #[.string s, .string t] w) : Row Value.string w (some ⟨b, 0, none⟩) [s, t] := fun _ => by
  refine ⟨b, 0, rfl, h.lt, fun j hj => ?_⟩
  have : j = 0 ∨ j = 1 := by simp at hj; omega
  rcases this with rfl | rfl
  · exact (h.cell 0).trans rfl
  · exact (h.cell 1).trans rfl
theorem asm_wrong (b : Nat) (w : World) (hL : AL w) (h : Blk b 9 #[.string ⟨#[108, 111, 110, 103, 105, 32, 49, 50, 51, 52]⟩, .string ⟨#[100, 114, 97, 119, 32, 118, 49, 32, 86, 50, 32, 51]⟩] w) : Calls Tryz.prog 8 #[.slice (some ⟨b, 0, none⟩) 2 2, .int .i64 3] w fun e w' => e = .returned (.tuple #[.slice none 0 0, .int .i64 1, .int .i64 6]) ∧ Below w.heap.size w w' := by
  refine (assemble_any _ 2 2 [⟨#[108, 111, 110, 103, 105, 32, 49, 50, 51, 52]⟩, ⟨#[100, 114, 97, 119, 32, 118, 49, 32, 86, 50, 32, 51]⟩] 3 wf3 w hL (two_row h) rfl (by decide) (fun s hs => by
    rcases List.mem_cons.1 hs with rfl | hs
    · decide
    · rw [List.mem_singleton.1 hs]; decide)).mono fun e w' h => ?_
  exact h.no [xLong] 1 (fun i hi => by rw [List.mem_singleton.1 hi]; exact lgLong) (by rw [List.map_cons, List.map_nil, tLong]; rfl) (by decide) (fun i hi => noWrong i hi)
theorem asm_right (b : Nat) (w : World) (hL : AL w) (h : Blk b 9 #[.string ⟨#[108, 111, 110, 103, 105, 32, 49, 50, 51, 52]⟩, .string ⟨#[100, 114, 97, 119, 32, 86, 49, 32, 86, 50, 32, 51]⟩] w) : Calls Tryz.prog 8 #[.slice (some ⟨b, 0, none⟩) 2 2, .int .i64 3] w fun e w' => ∃ A c, e = .returned (.tuple #[.slice A 6 c, .int .i64 0, .int .i64 0]) ∧ Rd w' A [240, 0, 18, 52, 209, 35] ∧ Below w.heap.size w w' := by
  refine (assemble_any _ 2 2 [⟨#[108, 111, 110, 103, 105, 32, 49, 50, 51, 52]⟩, ⟨#[100, 114, 97, 119, 32, 86, 49, 32, 86, 50, 32, 51]⟩] 3 wf3 w hL (two_row h) rfl (by decide) (fun s hs => by
    rcases List.mem_cons.1 hs with rfl | hs
    · decide
    · rw [List.mem_singleton.1 hs]; decide)).mono fun e w' h => ?_
  obtain ⟨A, c, he, ho, hb⟩ := h.yes [xLong, xDraw] (fun i hi => by
    rcases List.mem_cons.1 hi with rfl | hi
    · exact lgLong
    · rw [List.mem_singleton.1 hi]; exact lgDraw) (by rw [List.map_cons, List.map_cons, List.map_nil, tLong, tDraw]; rfl)
  rw [cBoth] at he ho
  exact ⟨A, c, he, Rd.of_row (Row.of_own ho), hb⟩
theorem parse_jump (w : World) (hL : AL w) : Calls Tryz.prog 11 #[.string ⟨#[106, 117, 109, 112, 97, 100, 100, 32, 53, 65, 66]⟩, .int .i64 1] w fun e w' => e = .returned (.tuple #[.agg #[.int .i64 21, .int .i64 5, .int .i64 0, .int .i64 0, .int .i64 0, .int .i64 1451, .int .i64 2], .int .i64 0]) ∧ Below w.heap.size w w' := by
  refine (parseF_any _ 1 wf1 (by decide) w hL).mono fun e w' h => ?_
  exact ⟨h.1.yes lgJump (by rw [tJump]; rfl), h.2⟩
theorem text_draw (w : World) (hL : AL w) : Calls Tryz.prog 12 #[.agg #[.int .i64 23, .int .i64 1, .int .i64 2, .int .i64 3, .int .i64 0, .int .i64 0, .int .i64 2]] w fun e w' => e = .returned (.string ⟨#[100, 114, 97, 119, 32, 86, 49, 32, 86, 50, 32, 51]⟩) ∧ Below w.heap.size w w' := by
  refine (text_yes lgDraw w hL).mono fun e w' h => ?_
  unfold txtS at h
  rw [tDraw] at h
  exact h
theorem list_data (b : Nat) (w : World) (hL : AL w) (h : Blk b 5 #[.int .u8 0, .int .u8 0, .int .u8 0] w) : Calls Tryz.prog 5 #[.slice (some ⟨b, 0, none⟩) 3 3, .int .i64 3] w fun e w' => ∃ A c, e = .returned (.slice A 2 c) ∧ Row Value.string w' A [⟨#[100, 97, 116, 97, 32, 48, 48, 48, 48]⟩, ⟨#[100, 97, 116, 97, 32, 48, 48]⟩] ∧ Below w.heap.size w w' := by
  refine (list_any (some ⟨b, 0, none⟩) 3 3 [0, 0, 0] 3 wf3 w hL (fun _ => ⟨_, rfl, h.lt, fun j hj => by
    have : j = 0 ∨ j = 1 ∨ j = 2 := by simp at hj; omega
    rcases this with rfl | rfl | rfl
    · exact (h.cell 0).trans rfl
    · exact (h.cell 1).trans rfl
    · exact (h.cell 2).trans rfl⟩) (fun x hx => by simp at hx; omega) rfl (by decide) (by decide)).mono fun e w' h => ?_
  obtain ⟨M, hM, A, c, he, ho, hb⟩ := h
  rw [lData] at hM
  unfold bytesOf at hM
  obtain ⟨m1, m2, rfl⟩ : ∃ m1 m2, M = [m1, m2] := by
    rcases M with _ | ⟨m1, _ | ⟨m2, _ | ⟨m3, t⟩⟩⟩
    · simp at hM
    · simp at hM
    · exact ⟨m1, m2, rfl⟩
    · simp at hM
  have e1 : m1 = ⟨#[100, 97, 116, 97, 32, 48, 48, 48, 48]⟩ := by
    have := congrArg (fun l => l[0]?) hM
    simp only [List.map_cons, List.getElem?_cons_zero, Option.some.injEq] at this
    apply ByteArray.ext
    exact Array.toList_inj.1 this
  have e2 : m2 = ⟨#[100, 97, 116, 97, 32, 48, 48]⟩ := by
    have := congrArg (fun l => l[1]?) hM
    simp only [List.map_cons, List.getElem?_cons_succ, List.getElem?_cons_zero, Option.some.injEq] at this
    apply ByteArray.ext
    exact Array.toList_inj.1 this
  rw [e1, e2] at ho
  exact ⟨A, c, he, Row.of_own ho, hb⟩

set_option maxRecDepth 100000 in
set_option maxHeartbeats 8000000 in
theorem awake_any (w : World) (hL : AL w) : Calls Tryz.prog 4 #[] w fun e w' => e = .returned (.bool true) ∧ Below w.heap.size w w' := by
  have HLL := Lib.hid hL
  have X1 := Lib.hid (Blk.new w 33 #[.int .i64 23, .int .i64 1, .int .i64 2, .int .i64 3, .int .i64 0, .int .i64 0, .int .i64 2])
  have B1 := Lib.hid (below_new' w (.cells #[.int .i64 23, .int .i64 1, .int .i64 2, .int .i64 3, .int .i64 0, .int .i64 0, .int .i64 2] 33))
  clear hL
  go_enter Tryz.func4, Tryz.ntmps4
  go_wp2_with fail
  refine (encode_draw _ (HLL.out.step B1.out)).mono ?_
  rintro e w2 ⟨Ab, cb, rfl, rb, b2⟩
  have RB2 := Lib.hid rb
  have X2 := Lib.hid (X1.out.step b2)
  have B2 := Lib.hid (B1.out.trans (b2.mono B1.out.size))
  clear rb b2 X1 B1
  go_wp2_with fail
  refine (encode_exit _ (HLL.out.step B2.out)).mono ?_
  rintro e w3 ⟨rfl, b3⟩
  have RB3 := Lib.hid (RB2.out.below b3)
  have X3 := Lib.hid (X2.out.step b3)
  have B3 := Lib.hid (B2.out.trans (b3.mono B2.out.size))
  clear b3
  go_wp2_with fail
  refine (asm_wrong w3.heap.size _ (HLL.out.step (B3.out.alloc B3.out.size _)) (Blk.new w3 _ _)).mono ?_
  rintro e w4 ⟨rfl, b4⟩
  have bb4 := (below_past b4)
  have RB4 := Lib.hid (RB3.out.below bb4)
  have X4 := Lib.hid (X3.out.step bb4)
  have B4 := Lib.hid (B3.out.trans (bb4.mono B3.out.size))
  clear b4 bb4
  go_wp2_with fail
  refine (asm_right w4.heap.size _ (HLL.out.step (B4.out.alloc B4.out.size _)) (Blk.new w4 _ _)).mono ?_
  rintro e w5 ⟨Ad, cd, rfl, rd, b5⟩
  have RD5 := Lib.hid rd
  have bb5 := (below_past b5)
  have RB5 := Lib.hid (RB4.out.below bb5)
  have X5 := Lib.hid (X4.out.step bb5)
  have B5 := Lib.hid (B4.out.trans (bb5.mono B4.out.size))
  clear b5 bb5
  clear rd
  go_wp2_with fail
  refine (parse_jump _ (HLL.out.step B5.out)).mono ?_
  rintro e w6 ⟨rfl, b6⟩
  have bb6 := b6
  have RB6 := Lib.hid (RB5.out.below bb6)
  have RD6 := Lib.hid (RD5.out.below bb6)
  have X6 := Lib.hid (X5.out.step bb6)
  have B6 := Lib.hid (B5.out.trans (bb6.mono B5.out.size))
  clear b6 bb6
  have J7 := Lib.hid (Blk.new w6 33 #[.int .i64 21, .int .i64 5, .int .i64 0, .int .i64 0, .int .i64 0, .int .i64 1451, .int .i64 2])
  have b7 := below_new' w6 (.cells #[.int .i64 21, .int .i64 5, .int .i64 0, .int .i64 0, .int .i64 0, .int .i64 1451, .int .i64 2] 33)
  have RB7 := Lib.hid (RB6.out.below b7)
  have RD7 := Lib.hid (RD6.out.below b7)
  have X7 := Lib.hid (X6.out.step b7)
  have B7 := Lib.hid (B6.out.trans (b7.mono B6.out.size))
  clear b7
  go_upto_region 7 with fail
  generalize World.alloc _ _ = w7 at J7 RB7 RD7 X7 B7 ⊢
  clear RB2 RB3 RB4 RB5 RB6 RD5 RD6 X2 X3 X4 X5 X6 B2 B3 B4 B5 B6
  go_wp2_with fail
  have q7 := Blk.new w7 5 #[.int .u8 209, .int .u8 35]
  refine (same_eq Ab (some ⟨w7.heap.size, 0, none⟩) cb 2 2 [209, 35] _ rfl (by decide) (RB7.out.below (below_new' w7 _)) (fun _ => ⟨_, rfl, q7.lt, fun j hj => by
    have : j = 0 ∨ j = 1 := by simp at hj; omega
    rcases this with rfl | rfl
    · exact (q7.cell 0).trans rfl
    · exact (q7.cell 1).trans rfl⟩)).mono ?_
  clear q7
  rintro e w8 ⟨rfl, b8⟩
  have bb8 := (below_past b8)
  have J8 := Lib.hid (J7.out.step bb8)
  have RD8 := Lib.hid (RD7.out.below bb8)
  have X8 := Lib.hid (X7.out.step bb8)
  have B8 := Lib.hid (B7.out.trans (bb8.mono B7.out.size))
  clear b8 bb8
  go_wp2_with fail
  have q8 := Blk.new w8 5 #[.int .u8 240, .int .u8 0, .int .u8 18, .int .u8 52, .int .u8 209, .int .u8 35]
  refine (same_eq Ad (some ⟨w8.heap.size, 0, none⟩) cd 6 6 [240, 0, 18, 52, 209, 35] _ rfl (by decide) (RD8.out.below (below_new' w8 _)) (fun _ => ⟨_, rfl, q8.lt, fun j hj => by
    have : j = 0 ∨ j = 1 ∨ j = 2 ∨ j = 3 ∨ j = 4 ∨ j = 5 := by simp at hj; omega
    rcases this with rfl | rfl | rfl | rfl | rfl | rfl
    · exact (q8.cell 0).trans rfl
    · exact (q8.cell 1).trans rfl
    · exact (q8.cell 2).trans rfl
    · exact (q8.cell 3).trans rfl
    · exact (q8.cell 4).trans rfl
    · exact (q8.cell 5).trans rfl⟩)).mono ?_
  clear q8
  rintro e w9 ⟨rfl, b9⟩
  have bb9 := (below_past b9)
  have J9 := Lib.hid (J8.out.step bb9)
  have X9 := Lib.hid (X8.out.step bb9)
  have B9 := Lib.hid (B8.out.trans (bb9.mono B8.out.size))
  clear b9 bb9
  have l9 := X9.out.lt
  have x0 : w9.cell? ⟨w.heap.size, 0, none⟩ = some (.int .i64 23) := (X9.out.cell 0).trans rfl
  have x1 : w9.cell? ⟨w.heap.size, 1, none⟩ = some (.int .i64 1) := (X9.out.cell 1).trans rfl
  have x2 : w9.cell? ⟨w.heap.size, 2, none⟩ = some (.int .i64 2) := (X9.out.cell 2).trans rfl
  have x3 : w9.cell? ⟨w.heap.size, 3, none⟩ = some (.int .i64 3) := (X9.out.cell 3).trans rfl
  have x4 : w9.cell? ⟨w.heap.size, 4, none⟩ = some (.int .i64 0) := (X9.out.cell 4).trans rfl
  have x5 : w9.cell? ⟨w.heap.size, 5, none⟩ = some (.int .i64 0) := (X9.out.cell 5).trans rfl
  have x6 : w9.cell? ⟨w.heap.size, 6, none⟩ = some (.int .i64 2) := (X9.out.cell 6).trans rfl
  go_wp2_with fail
  refine (text_draw _ (HLL.out.step B9.out)).mono ?_
  rintro e w10 ⟨rfl, b10⟩
  clear x0 x1 x2 x3 x4 x5 x6 l9
  have bb10 := b10
  have J10 := Lib.hid (J9.out.step bb10)
  have B10 := Lib.hid (B9.out.trans (bb10.mono B9.out.size))
  clear b10 bb10
  have l10 := J10.out.lt
  have y0 : w10.cell? ⟨w6.heap.size, 0, none⟩ = some (.int .i64 21) := (J10.out.cell 0).trans rfl
  have y1 : w10.cell? ⟨w6.heap.size, 1, none⟩ = some (.int .i64 5) := (J10.out.cell 1).trans rfl
  have y2 : w10.cell? ⟨w6.heap.size, 2, none⟩ = some (.int .i64 0) := (J10.out.cell 2).trans rfl
  have y3 : w10.cell? ⟨w6.heap.size, 3, none⟩ = some (.int .i64 0) := (J10.out.cell 3).trans rfl
  have y4 : w10.cell? ⟨w6.heap.size, 4, none⟩ = some (.int .i64 0) := (J10.out.cell 4).trans rfl
  have y5 : w10.cell? ⟨w6.heap.size, 5, none⟩ = some (.int .i64 1451) := (J10.out.cell 5).trans rfl
  have y6 : w10.cell? ⟨w6.heap.size, 6, none⟩ = some (.int .i64 2) := (J10.out.cell 6).trans rfl
  have hE : ∀ w : World, (binOp .eql 33 (.agg #[.int .i64 21, .int .i64 5, .int .i64 0, .int .i64 0, .int .i64 0, .int .i64 1451, .int .i64 2]) (.agg #[.int .i64 21, .int .i64 5, .int .i64 0, .int .i64 0, .int .i64 0, .int .i64 1451, .int .i64 2])).run Tryz.prog w = .ok (.bool true) w := fun w => by
    have h := eql_ins xJump xJump w
    rw [insB_same] at h
    exact h
  go_wp2_with fail
  refine (list_data w10.heap.size _ (HLL.out.step (B10.out.alloc B10.out.size _)) (Blk.new w10 _ _)).mono ?_
  clear y0 y1 y2 y3 y4 y5 y6 l10 hE
  rintro e w11 ⟨Al, cl, rfl, rl, b11⟩
  have RL := Lib.hid rl
  have B11 := Lib.hid (B10.out.trans ((below_past b11).mono B10.out.size))
  clear rl b11
  go_wp2_with fail
  refine (texts_any Al (some ⟨w11.heap.size, 0, none⟩) 2 cl 2 2 _ _ _ (RL.out.below (below_new' w11 _)) (two_row (Blk.new w11 _ _)) rfl rfl (by decide) (by decide)).mono ?_
  rintro e w12 ⟨rfl, b12⟩
  have B12 := Lib.hid (B11.out.trans ((below_past b12).mono B11.out.size))
  clear b12
  rw [show sameB [⟨#[100, 97, 116, 97, 32, 48, 48, 48, 48]⟩, ⟨#[100, 97, 116, 97, 32, 48, 48]⟩] [⟨#[100, 97, 116, 97, 32, 48, 48, 48, 48]⟩, ⟨#[100, 97, 116, 97, 32, 48, 48]⟩] = true by simp [sameB]]
  go_wp2_with fail
  go_ret
  exact ⟨rfl, B12.out⟩
end Go.Proofs.YthfiaemdpfffcaaGreatDoor
