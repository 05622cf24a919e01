/- The lines that bytes are listed as. Nothing of the program. -/
import Derived.Test.YthfiaemdpfffcaaGreatDoorAsmTxt
import Derived.Test.YthfiaemdpfffcaaGreatDoorAsmTx
import Derived.Test.YthfiaemdpfffcaaGreatDoorAsmEnc
import Derived.Test.YthfiaemdpfffcaaGreatDoorMix
import Derived.Test.YthfiaemdpfffcaaGreatDoorLate
import Derived.Test.YthfiaemdpfffcaaGreatDoorHex
import Derived.Test.YthfiaemdpfffcaaGreatDoorAsmRef
import Derived.Lib.MinMax
import Derived.Test.YthfiaemdpfffcaaGreatDoorAsmSplit
namespace Go.Proofs.YthfiaemdpfffcaaGreatDoor
open Num Dec
set_option linter.unusedVariables false
set_option linter.unusedSimpArgs false

/-- Bytes, and the k-th of them, 0 behind the end. -/
def Bt (L : List Int) : Prop := ∀ b ∈ L, 0 ≤ b ∧ b ≤ 255
def atb (L : List Int) (k : Nat) : Nat := (L.getD k 0).toNat
theorem Bt.drop {L : List Int} (h : Bt L) (k : Nat) : Bt (L.drop k) := fun b hb => h b (List.mem_of_mem_drop hb)
theorem Bt.at_ {L : List Int} (h : Bt L) (k : Nat) : ((atb L k : Nat) : Int) = L.getD k 0 ∧ atb L k < 256 := by
  unfold atb
  by_cases hk : k < L.length
  · have := h L[k] (List.getElem_mem hk)
    rw [List.getD_eq_getElem?_getD, List.getElem?_eq_getElem hk]
    simp only [Option.getD_some]
    omega
  · rw [List.getD_eq_getElem?_getD, List.getElem?_eq_none (by omega)]
    simp
theorem atb_drop (L : List Int) (k j : Nat) : atb (L.drop k) j = atb L (k + j) := by
  unfold atb
  rw [List.getD_eq_getElem?_getD, List.getD_eq_getElem?_getD, List.getElem?_drop]
theorem atb_get {L : List Int} {k : Nat} (h : k < L.length) : atb L k = L[k].toNat := by
  unfold atb
  rw [List.getD_eq_getElem?_getD, List.getElem?_eq_getElem h]
  rfl
/-- What the first four bytes are decoded to. -/
def insA (l : Int) (L : List Int) : Ins := dec (atb L 0) (atb L 1) (atb L 2) (atb L 3) l
def isI (l : Int) (L : List Int) : Prop := (insA l L).op ≠ 0 ∧ (insA l L).len ≤ (L.length : Int)
instance (l : Int) (L : List Int) : Decidable (isI l L) := by unfold isI; infer_instance
def dataL (L : List Int) : List UInt8 := [100, 97, 116, 97, 32] ++ (if L.length = 1 then hexL (atb L 0) 2 else hexL (atb L 0 * 256 + atb L 1) 4)
/-- The first line, and how many bytes it is for. -/
def lineL (l : Int) (L : List Int) : List UInt8 := if isI l L then txtL (insA l L) else dataL L
def lineN (l : Int) (L : List Int) : Nat := if isI l L then (insA l L).len.toNat else min 2 L.length
theorem isI.lg {l : Int} {L : List Int} (h : isI l L) (hb : Bt L) : Lg l (insA l L) := by
  refine ⟨_, _, _, _, (hb.at_ 0).2, (hb.at_ 1).2, (hb.at_ 2).2, (hb.at_ 3).2, ?_, rfl⟩
  have ho := h.1
  unfold insA at ho
  cases hk : ok (atb L 0) (atb L 1) l
  · rw [decNo hk] at ho
    exact absurd rfl ho
  · rfl
theorem line_n {l : Int} {L : List Int} (hb : Bt L) (h1 : 1 ≤ L.length) : 1 ≤ lineN l L ∧ lineN l L ≤ L.length ∧ lineN l L ≤ 4 := by
  unfold lineN
  by_cases h : isI l L
  · rw [if_pos h]
    have h2 := h.2
    have := (h.lg hb).back.2.2.2.2.2.1
    omega
  · rw [if_neg h]
    omega
/-- All lines. -/
def linesW : Nat → Int → List Int → List (List UInt8)
  | 0, _, _ => []
  | f + 1, l, L => if L.length = 0 then [] else lineL l L :: linesW f l (L.drop (lineN l L))
theorem lines_more : ∀ (f g : Nat) (l : Int) (L : List Int), Bt L → L.length ≤ f → f ≤ g → linesW g l L = linesW f l L
  | 0, 0, l, L, _, _, _ => rfl
  | 0, g + 1, l, L, _, h, _ => by
    unfold linesW
    rw [if_pos (by omega)]
  | f + 1, 0, l, L, _, _, h => absurd h (by omega)
  | f + 1, g + 1, l, L, hb, h, hg => by
    unfold linesW
    by_cases h0 : L.length = 0
    · rw [if_pos h0, if_pos h0]
    · rw [if_neg h0, if_neg h0]
      have := line_n (l := l) hb (by omega)
      rw [lines_more f g l _ (hb.drop _) (by rw [List.length_drop]; omega) (by omega)]
def linesA (l : Int) (L : List Int) : List (List UInt8) := linesW L.length l L
theorem lines_nil (l : Int) {L : List Int} (h : L.length = 0) : linesA l L = [] := by
  unfold linesA
  rw [h]
  rfl
theorem lines_cons {l : Int} {L : List Int} (hb : Bt L) (h : 1 ≤ L.length) : linesA l L = lineL l L :: linesA l (L.drop (lineN l L)) := by
  have hn := line_n (l := l) hb h
  unfold linesA
  obtain ⟨f, hf⟩ : ∃ f, L.length = f + 1 := ⟨L.length - 1, by omega⟩
  rw [hf]
  conv => lhs; unfold linesW
  rw [if_neg (by omega), ← lines_more (L.drop (lineN l L)).length f l _ (hb.drop _) (Nat.le_refl _) (by rw [List.length_drop]; omega)]
theorem lines_len : ∀ (f : Nat) (l : Int) (L : List Int), Bt L → L.length ≤ f → (linesA l L).length ≤ L.length
  | 0, l, L, _, h => by rw [lines_nil l (by omega)]; simp
  | f + 1, l, L, hb, h => by
    by_cases h0 : L.length = 0
    · rw [lines_nil l h0]; simp
    · have hn := line_n (l := l) hb (by omega)
      have ih := lines_len f l (L.drop (lineN l L)) (hb.drop _) (by rw [List.length_drop]; omega)
      rw [lines_cons hb (by omega)]
      rw [List.length_drop] at ih
      simp only [List.length_cons]
      omega
theorem hex_two (a b : Nat) (ha : a < 256) (hb : b < 256) : hexL a 2 ++ hexL b 2 = hexL (a * 256 + b) 4 := by
  simp only [hexL_cons, hexL, List.cons_append, List.nil_append, Nat.pow_succ, Nat.pow_zero]
  rw [show (a * 256 + b) / 16 / 16 / 16 % 16 = a / 16 % 16 by omega, show (a * 256 + b) / 16 / 16 % 16 = a % 16 by omega, show (a * 256 + b) / 16 % 16 = b / 16 % 16 by omega, show (a * 256 + b) % 16 = b % 16 by omega]
/-- The text of data, as the bytes are gone through. -/
def datP (L : List Int) (k : Nat) : List UInt8 := [100, 97, 116, 97, 32] ++ ((L.take k).flatMap fun b => hexL b.toNat 2)
theorem dat_step {L : List Int} {k : Nat} (h : k < L.length) : datP L (k + 1) = datP L k ++ hexL (atb L k) 2 := by
  unfold datP
  rw [List.take_succ_eq_append_getElem h, List.flatMap_append, atb_get h]
  simp
theorem dat_all {L : List Int} (hb : Bt L) (h : 1 ≤ L.length) : datP L (min 2 L.length) = dataL L := by
  unfold dataL
  by_cases h1 : L.length = 1
  · rw [if_pos h1, h1, show min 2 1 = 0 + 1 from rfl, dat_step (by omega)]
    rfl
  · rw [if_neg h1, show min 2 L.length = 0 + 1 + 1 by omega, dat_step (by omega), dat_step (by omega), List.append_assoc, hex_two _ _ (hb.at_ 0).2 (hb.at_ 1).2]
    rfl
end Go.Proofs.YthfiaemdpfffcaaGreatDoor
/- Text: the text of an instruction, if it is legal for the greatest level. -/
namespace Go.Proofs.YthfiaemdpfffcaaGreatDoor
open Go.RowKit Num Dec
set_option linter.unusedVariables false
set_option linter.unusedSimpArgs false

theorem wf3 : (Lit.int .i64 3).wf = true := by decide
theorem Dec.Lg.rgs {l : Int} {i : Ins} (h : Lg l i) : Rg i := by
  have := h.rg
  unfold Rg
  omega

set_option maxRecDepth 100000 in
set_option maxHeartbeats 8000000 in
theorem text_no {i : Ins} (h : ¬ Lg 3 i) (w : World) (hL : AL w) : Calls Tryz.prog 12 #[.agg (icells i)] w fun e w' => e = .returned (.string ⟨#[]⟩) ∧ Below w.heap.size w w' := by
  have EC := Lib.hid (fun (w : World) (hL : AL w) => encode_any i 3 wf3 w hL)
  have BV := Lib.hid (below_new' w (.cells (icells i) 33))
  have BX := Lib.hid (Blk.new w 33 (icells i))
  have HL := Lib.hid hL
  have N := Lib.hid h
  clear hL h
  obtain ⟨o, x, y, n, nn, a, len⟩ := i
  unfold icells at *
  simp only at *
  go_enter Tryz.func12, Tryz.ntmps12
  go_wp2_with fail
  refine (EC.out _ (HL.out.step BV.out)).mono ?_
  rintro e w1 (⟨hy, _⟩ | ⟨_, rfl, b1⟩)
  · exact absurd hy N.out
  have B1 := Lib.hid (BV.out.trans (b1.mono (by simp)))
  clear b1
  go_wp2_with fail
  go_ret
  exact ⟨rfl, B1.out⟩

set_option maxRecDepth 100000 in
set_option maxHeartbeats 8000000 in
theorem text_yes {i : Ins} (h : Lg 3 i) (w : World) (hL : AL w) : Calls Tryz.prog 12 #[.agg (icells i)] w fun e w' => e = .returned (.string (txtS i)) ∧ Below w.heap.size w w' := by
  have EC := Lib.hid (fun (w : World) (hL : AL w) => encode_any i 3 wf3 w hL)
  have BV := Lib.hid (below_new' w (.cells (icells i) 33))
  have BX := Lib.hid (Blk.new w 33 (icells i))
  have HL := Lib.hid hL
  have N := Lib.hid h
  have TX := Lib.hid (fun (v : Value) (w : World) => text_any' v i.op.toNat i (by have := h.rg.1; omega) (by have := h.rg.1; omega) h.rgs w)
  clear hL h
  obtain ⟨S, hS⟩ : ∃ S, txtS i = S := ⟨_, rfl⟩
  rw [hS] at TX ⊢
  clear hS
  obtain ⟨o, x, y, n, nn, a, len⟩ := i
  unfold icells at *
  simp only at *
  go_enter Tryz.func12, Tryz.ntmps12
  go_wp2_with fail
  refine (EC.out _ (HL.out.step BV.out)).mono ?_
  rintro e w1 (⟨_, A, c, rfl, _, b1⟩ | ⟨hn, _⟩)
  rotate_left
  · exact absurd N.out hn
  have B1 := Lib.hid (BV.out.trans (b1.mono (by simp)))
  have X1 := Lib.hid (BX.out.step b1)
  clear b1
  generalize (codeL _).length = cl
  go_upto_region 4 with fail
  refine wp_region_mix (C := fun w' => ∃ u : Calm w1, w' = u.w) [([1], 0), ([], 2)] [3] (by kernel_rfl) (by kernel_rfl) (fun _ _ d _ _ h => by cases d <;> exact h) ⟨⟨w1.drew, (Below.refl _ _).drew⟩, rfl⟩ ?_
  intro wd hwd
  refine mix_run (by simp only [opsAt, List.getElem?_toArray, List.getElem?_cons_succ, List.getElem?_cons_zero]; rfl) (by rfl) ?_
  refine quiet_load_all aggInstr (fun w9 hw9 => by obtain ⟨u, rfl⟩ := hw9; exact X1.out.step u.below) rfl ?_ (.tmp 1) ?_ ?_ ?_
  · rfl
  · rfl
  · rfl
  simp only [Act.put, List.setIfInBounds_toArray, List.set_cons_zero, List.set_cons_succ]
  refine wpQuiet_nil ?_
  refine mix_call (by rfl) ?_
  intro K hK
  go_wp2_with fail
  refine (syntax_any _).mono ?_
  rintro e w2 ⟨v, rfl, sv, b2⟩
  subst hwd
  have B2 := Lib.hid ((Below.refl w1.heap.size w1).drew.trans b2)
  have SV := Lib.hid sv
  clear sv b2
  simp only []
  refine hK _ _ ⟨⟨w2, B2.out⟩, rfl⟩ ?_
  clear hK K
  refine mix_run (by simp only [opsAt, List.getElem?_toArray, List.getElem?_cons_succ, List.getElem?_cons_zero]; rfl) (by rfl) ?_
  refine wpQuiet_nil ?_
  refine mix_call (by rfl) ?_
  intro K hK
  go_wp2_with fail
  refine (TX.out v w2 ((HL.out.step B1.out).step B2.out) SV.out).mono ?_
  rintro e w3 ⟨rfl, b3⟩
  have B3 := Lib.hid (B2.out.trans (b3.mono B2.out.size))
  clear b3
  simp only []
  refine hK _ _ ⟨⟨w3, B3.out⟩, rfl⟩ ?_
  clear hK K
  refine mix_last (by simp only [opsAt, List.getElem?_toArray, List.getElem?_cons_succ, List.getElem?_cons_zero]; rfl) ?_
  repeat (go_big_quiet_step (rfl))
  refine wpQuiet_nil ?_
  have B4 := Lib.hid (B1.out.trans (B3.out.mono B1.out.size))
  go_wp2_with fail
  go_ret
  exact ⟨rfl, B4.out⟩
end Go.Proofs.YthfiaemdpfffcaaGreatDoor
/- first: the first line for bytes that are not empty. -/
namespace Go.Proofs.YthfiaemdpfffcaaGreatDoor
open Go.RowKit Num Dec
set_option linter.unusedVariables false
set_option linter.unusedSimpArgs false

theorem list_copyB {ops : Array Oper} {rest : List Oper} {o : Oper} {a : Act} {w w' : World} {Q : Exit → Act → World → Prop} (hgd : o.guard = none) (d s : Operand)
    (ho : o.op = .call { callee := .builtin .copy, args := #[d, s], argTypes := #[22, 22] }) (X Y r : Value) (hd : a.eval d = X) (hs : a.eval s = Y)
    (hrun : (Builtin.copy_ #[22, 22] o.type #[X, Y]).run Tryz.prog w = .ok r w') (t : Nat) (hdst : o.dst = some t) (h : wpList Tryz.prog ops Q rest ⟨a.tmps.setIfInBounds t r, a.defers⟩ w') : wpList Tryz.prog ops Q (o :: rest) a w :=
  wpList_plain hgd fun K hK => wp_copy_run d s ho o.type rfl X Y r hd hs hrun t hdst (hK _ _ h)
/-- The first four bytes over zeros. -/
theorem four_cells {L : List Int} (hb : Bt L) : (splice [Value.int .u8 0, .int .u8 0, .int .u8 0, .int .u8 0] 0 ((L.take 4).map (Value.int .u8))).toArray = bI (atb L 0) (atb L 1) (atb L 2) (atb L 3) := by
  unfold bI
  rw [(hb.at_ 0).1, (hb.at_ 1).1, (hb.at_ 2).1, (hb.at_ 3).1]
  rcases L with _ | ⟨a, _ | ⟨b, _ | ⟨c, _ | ⟨d, t⟩⟩⟩⟩ <;> rfl
theorem flat_two : ∀ L : List Int, (L.flatMap fun b => hexL b.toNat 2).length ≤ 2 * L.length
  | [] => by simp
  | a :: t => by
    have := flat_two t
    simp only [List.flatMap_cons, List.length_append, hexL_len, List.length_cons]
    omega
def lineS (l : Int) (L : List Int) : ByteArray := ⟨(lineL l L).toArray⟩

set_option maxRecDepth 100000 in
set_option maxHeartbeats 8000000 in
theorem first_line (v : Value) (A : Option Addr) (n c : Nat) (L : List Int) (l : Int) (hl : (Lit.int .i64 l).wf = true) (w : World) (hL : AL w) (hS : Syn v w) (H : Rd w A L) (hb : Bt L) (hn : L.length = n) (h1 : 1 ≤ n) (h2 : n ≤ 1000) (hc : n ≤ c) :
    Calls Tryz.prog 14 #[v, .slice A n c, .int .i64 l] w fun e w' => e = .returned (.tuple #[.string (lineS l L), .int .i64 (lineN l L : Nat)]) ∧ Below w.heap.size w w' := by
  have DC := Lib.hid (fun w => decode_any (atb L 0) (atb L 1) (atb L 2) (atb L 3) l w (hb.at_ 0).2 (hb.at_ 1).2 (hb.at_ 2).2 (hb.at_ 3).2 hl)
  have HH := Lib.hid (And.intro H (And.intro hb hn))
  have HLL := Lib.hid hL
  have HS := Lib.hid hS
  have F4 := Lib.hid (four_cells hb)
  obtain ⟨m, rfl⟩ : ∃ m, v = .map (some m) := ⟨hS.choose, hS.choose_spec.1⟩
  have LW := Lib.hid (show lineS l L = ⟨(lineL l L).toArray⟩ from rfl)
  have LN := Lib.hid (show lineN l L = if isI l L then (insA l L).len.toNat else min 2 L.length from rfl)
  have LL := Lib.hid (show lineL l L = if isI l L then txtL (insA l L) else dataL L from rfl)
  obtain ⟨TS, hTS⟩ : ∃ TS, lineS l L = TS := ⟨_, rfl⟩
  obtain ⟨TN, hTN⟩ : ∃ TN, lineN l L = TN := ⟨_, rfl⟩
  rw [hTS] at LW ⊢
  rw [hTN] at LN ⊢
  have II := Lib.hid (show isI l L ↔ (insA l L).op ≠ 0 ∧ (insA l L).len ≤ (n : Int) by unfold isI; rw [hn])
  have IL := Lib.hid (fun h : isI l L => h.lg hb)
  have IE := Lib.hid (show dec (atb L 0) (atb L 1) (atb L 2) (atb L 3) l = insA l L from rfl)
  rw [IE.out] at DC
  have zr := dec_range (atb L 0) (atb L 1) (atb L 2) (atb L 3) l (hb.at_ 0).2 (hb.at_ 1).2 (hb.at_ 2).2 (hb.at_ 3).2 IE.out
  have ZR := Lib.hid zr
  clear hS hL H hb hTS hTN zr IE
  generalize insA l L = I at *
  go_enter Tryz.func14, Tryz.ntmps14
  go_upto_region 2 with fail
  have S := Lib.hid (Blk.new w 49 #[.int .u8 0, .int .u8 0, .int .u8 0, .int .u8 0])
  have B := Lib.hid (below_new' w (.cells #[.int .u8 0, .int .u8 0, .int .u8 0, .int .u8 0] 49))
  generalize World.alloc _ _ = w1 at S B ⊢
  refine wp_region_lit ?_
  iterate 6 go_step
  obtain ⟨d, hd⟩ : ∃ d, d = min n 4 := ⟨_, rfl⟩
  have RL : Rd w1 A L := HH.out.1.below B.out
  obtain ⟨w3, hrun, hg, ha⟩ := run_copy_gen 3 w.heap.size 0 4 4 (some ⟨w.heap.size, 0, none⟩) (fun _ => rfl) A n c d hd L HH.out.2.2 RL [.int .u8 0, .int .u8 0, .int .u8 0, .int .u8 0] 49 S.out (by simp)
  rw [F4.out] at hg
  refine list_copyB rfl (.tmp 14) (.tmp 15) rfl _ _ _ (by simp [Act.eval]) (by simp [Act.eval]) hrun 16 rfl ?_
  have S3 := Lib.hid (show Blk w.heap.size 49 (bI (atb L 0) (atb L 1) (atb L 2) (atb L 3)) w3 from hg)
  have B3 := Lib.hid (B.out.trans ((ha none).below (by have := S.out.lt; omega) (Nat.le_refl _) (fun k hk => by cases hk)))
  clear hrun hg ha RL hd S B F4
  simp only [List.setIfInBounds_toArray, List.set_cons_zero, List.set_cons_succ]
  have c0 : w3.cell? ⟨w.heap.size, 0, none⟩ = some (.int .u8 (atb L 0 : Nat)) := (S3.out.cell 0).trans rfl
  have c1 : w3.cell? ⟨w.heap.size, 1, none⟩ = some (.int .u8 (atb L 1 : Nat)) := (S3.out.cell 1).trans rfl
  have c2 : w3.cell? ⟨w.heap.size, 2, none⟩ = some (.int .u8 (atb L 2 : Nat)) := (S3.out.cell 2).trans rfl
  have c3 : w3.cell? ⟨w.heap.size, 3, none⟩ = some (.int .u8 (atb L 3 : Nat)) := (S3.out.cell 3).trans rfl
  go_wp2_with fail
  refine (DC.out _).mono ?_
  rintro e w4 ⟨rfl, b4⟩
  have B4 := Lib.hid (B3.out.trans (b4.mono B3.out.size))
  clear b4 S3 DC c0 c1 c2 c3
  have GB := Lib.hid (Blk.new w4 33 (icells I))
  have B5 := Lib.hid (B4.out.trans ((below_new' w4 (.cells (icells I) 33)).mono B4.out.size))
  obtain ⟨o, x, y, nf, nn, a, len⟩ := I
  unfold icells at GB B5 ⊢
  simp only at GB B5 II LN ZR IL LL ⊢
  go_upto_region 4 with fail
  generalize World.alloc _ _ = w5 at GB B5 ⊢
  by_cases hI : isI l L
  · have i1 := (II.out.1 hI).1
    have i2 := (II.out.1 hI).2
    have LGI := Lib.hid (IL.out hI)
    have EN := Lib.hid (LN.out.trans (if_pos hI))
    have EL := Lib.hid (LL.out.trans (if_pos hI))
    have TX := Lib.hid (fun (u : Calm w5) => text_any' (.map (some m)) o.toNat ⟨o, x, y, nf, nn, a, len⟩ (by have := ZR.out.1; simp only; omega) (by have := ZR.out.1; omega) LGI.out.rgs u.w (HLL.out.step (B5.out.trans (u.below.mono B5.out.size))) (HS.out.step (B5.out.trans (u.below.mono B5.out.size))))
    unfold icells at TX
    simp only at TX
    have l24 := LGI.out.back.2.2.2.2.2.1
    simp only at l24
    have f0 : w5.cell? ⟨w4.heap.size, 0, none⟩ = some (.int .i64 o) := (GB.out.cell 0).trans rfl
    have f6 : w5.cell? ⟨w4.heap.size, 6, none⟩ = some (.int .i64 len) := (GB.out.cell 6).trans rfl
    have TN2 := Lib.hid (show (TN : Int) = len by have := EN.out; omega)
    clear hI LN LL
    go_upto_region 5 with fail
    have k6 := Calm.cell f6 GB.out.lt
    refine calm_region (by kernel_rfl) (by kernel_rfl) ?_
    iterate 1 (go_big_quiet_step (fail))
    refine quiet_load_all aggInstr (fun w9 hw9 => by obtain ⟨u, rfl⟩ := hw9; exact GB.out.step u.below) rfl ?_ (.tmp 9) ?_ ?_ ?_
    · rfl
    · rfl
    · rfl
    simp only [Act.put, List.setIfInBounds_toArray, List.set_cons_zero, List.set_cons_succ]
    repeat (go_big_quiet_step ((go_at_call 23; exact calm_call (TX.out _))))
    refine wpQuiet_nil ?_
    intro _ hw'
    obtain ⟨u, rfl⟩ := hw'
    have B6 := Lib.hid (B5.out.trans (u.below.mono B5.out.size))
    go_wp2_with fail
    go_ret2
    refine ⟨?_, B6.out⟩
    rw [LW.out, EL.out, TN2.out]
    rfl
  · have EN := Lib.hid (LN.out.trans (if_neg hI))
    have EL := Lib.hid (LL.out.trans (if_neg hI))
    have f0 : w5.cell? ⟨w4.heap.size, 0, none⟩ = some (.int .i64 o) := (GB.out.cell 0).trans rfl
    have f6 : w5.cell? ⟨w4.heap.size, 6, none⟩ = some (.int .i64 len) := (GB.out.cell 6).trans rfl
    have NI := Lib.hid (show ¬ (o ≠ 0 ∧ len ≤ (n : Int)) from fun c => hI (II.out.2 c))
    clear hI LN LL
    by_cases i1 : o = 0
    · subst i1
      go_upto_region 8 with fail
      rw [show min 2 (n : Int) = ((min 2 n : Nat) : Int) by omega]
      obtain ⟨K, hK⟩ : ∃ K, min 2 n = K := ⟨_, rfl⟩
      have EN := Lib.hid (show TN = K by rw [EN.out, hn]; exact hK)
      rw [hK]
      have k1 : K ≤ n := by omega
      have k2 : K ≤ 2 := by omega
      have DA := Lib.hid (show datP L K = dataL L by rw [← hK, ← hn]; exact dat_all HH.out.2.1 (by omega))
      have DS := Lib.hid (fun (j : Nat) (hj : j < L.length) => dat_step hj)
      have D0 := Lib.hid (show (⟨#[100, 97, 116, 97, 32]⟩ : ByteArray) = ⟨(datP L 0).toArray⟩ from rfl)
      have BTL := Lib.hid HH.out.2.1
      have NL := Lib.hid (And.intro hK hn)
      clear hK f0 f6 GB NI
      go_wp2_with fail
      go_loopw [11, 42] (fun v11 v42 wr => ∃ j : Nat, j ≤ K ∧ v42 = .int .i64 (j : Int) ∧ v11 = .string ⟨(datP L j).toArray⟩ ∧ Below w.heap.size w wr) (fun _ v42 _ => K - (intOf v42).toNat)
      case atStart => exact ⟨0, Nat.zero_le _, rfl, by rw [← D0.out], B5.out⟩
      case round =>
        obtain ⟨j, hj, rfl, rfl, hb⟩ := hrel
        have HB := Lib.hid hb
        clear hb
        by_cases hlt : j < K
        · have jl : j < L.length := by have := NL.out.2; omega
          obtain ⟨ad, rfl, hg, hc1⟩ := (HH.out.1.below HB.out).at_ jl
          have e := DS.out j jl
          have ea := atb_get jl
          have eb := BTL.out.at_ j
          have ev : (L[j] : Int) = ((atb L j : Nat) : Int) := by rw [eb.1, List.getD_eq_getElem?_getD, List.getElem?_eq_getElem jl]; rfl
          rw [ev] at hc1
          have eb2 := eb.2
          clear ea eb ev
          have HX := Lib.hid (fun w => hex_yes (atb L j) 2 w (by omega) (by decide) (by decide))
          have PL : (⟨(datP L j).toArray⟩ : ByteArray).size ≤ 100 := by
            have : ((L.take j).flatMap fun b => hexL b.toNat 2).length ≤ 2 * (L.take j).length := flat_two _
            simp only [ByteArray.size, List.size_toArray, datP, List.length_append, List.length_cons, List.length_nil]
            have h3 : (L.take j).length ≤ j := by simp; omega
            omega
          have PS := Lib.hid (show (⟨(datP L j).toArray⟩ : ByteArray) ++ hexS (atb L j) 2 = ⟨(datP L (j + 1)).toArray⟩ by rw [e]; unfold hexS; rw [strV_append])
          have hx2 : (hexS (atb L j) 2).size = 2 := hexS_size _ _
          clear e
          generalize atb L j = bv at hc1 HX PS hx2 eb2
          generalize hexS bv 2 = X at HX PS hx2
          generalize (⟨(datP L j).toArray⟩ : ByteArray) = T0 at PL PS ⊢
          have HJ := Lib.hid (And.intro hlt hj)
          have hjK : (j : Int) < (K : Int) := by omega
          clear hj jl
          go_wp2_with fail
          refine (HX.out _).mono ?_
          rintro e w7 ⟨rfl, b7⟩
          have B7 := Lib.hid (HB.out.trans (b7.mono HB.out.size))
          clear b7
          go_wp2_with fail
          exact ⟨⟨j + 1, HJ.out.1, rfl, by rw [← PS.out], B7.out⟩, by have := HJ.out; simp [intOf]; omega⟩
        · obtain rfl : j = K := by omega
          clear hj
          go_wp2_with fail
          go_ret2
          exact ⟨by rw [LW.out, EL.out, EN.out, DA.out]; rfl, HB.out⟩
    · have i2 : ¬ len ≤ (n : Int) := fun c => NI.out ⟨i1, c⟩
      go_upto_region 8 with fail
      rw [show min 2 (n : Int) = ((min 2 n : Nat) : Int) by omega]
      obtain ⟨K, hK⟩ : ∃ K, min 2 n = K := ⟨_, rfl⟩
      have EN := Lib.hid (show TN = K by rw [EN.out, hn]; exact hK)
      rw [hK]
      have k1 : K ≤ n := by omega
      have k2 : K ≤ 2 := by omega
      have DA := Lib.hid (show datP L K = dataL L by rw [← hK, ← hn]; exact dat_all HH.out.2.1 (by omega))
      have DS := Lib.hid (fun (j : Nat) (hj : j < L.length) => dat_step hj)
      have D0 := Lib.hid (show (⟨#[100, 97, 116, 97, 32]⟩ : ByteArray) = ⟨(datP L 0).toArray⟩ from rfl)
      have BTL := Lib.hid HH.out.2.1
      have NL := Lib.hid (And.intro hK hn)
      clear hK f0 f6 GB NI
      go_wp2_with fail
      go_loopw [11, 42] (fun v11 v42 wr => ∃ j : Nat, j ≤ K ∧ v42 = .int .i64 (j : Int) ∧ v11 = .string ⟨(datP L j).toArray⟩ ∧ Below w.heap.size w wr) (fun _ v42 _ => K - (intOf v42).toNat)
      case atStart => exact ⟨0, Nat.zero_le _, rfl, by rw [← D0.out], B5.out⟩
      case round =>
        obtain ⟨j, hj, rfl, rfl, hb⟩ := hrel
        have HB := Lib.hid hb
        clear hb
        by_cases hlt : j < K
        · have jl : j < L.length := by have := NL.out.2; omega
          obtain ⟨ad, rfl, hg, hc1⟩ := (HH.out.1.below HB.out).at_ jl
          have e := DS.out j jl
          have ea := atb_get jl
          have eb := BTL.out.at_ j
          have ev : (L[j] : Int) = ((atb L j : Nat) : Int) := by rw [eb.1, List.getD_eq_getElem?_getD, List.getElem?_eq_getElem jl]; rfl
          rw [ev] at hc1
          have eb2 := eb.2
          clear ea eb ev
          have HX := Lib.hid (fun w => hex_yes (atb L j) 2 w (by omega) (by decide) (by decide))
          have PL : (⟨(datP L j).toArray⟩ : ByteArray).size ≤ 100 := by
            have : ((L.take j).flatMap fun b => hexL b.toNat 2).length ≤ 2 * (L.take j).length := flat_two _
            simp only [ByteArray.size, List.size_toArray, datP, List.length_append, List.length_cons, List.length_nil]
            have h3 : (L.take j).length ≤ j := by simp; omega
            omega
          have PS := Lib.hid (show (⟨(datP L j).toArray⟩ : ByteArray) ++ hexS (atb L j) 2 = ⟨(datP L (j + 1)).toArray⟩ by rw [e]; unfold hexS; rw [strV_append])
          have hx2 : (hexS (atb L j) 2).size = 2 := hexS_size _ _
          clear e
          generalize atb L j = bv at hc1 HX PS hx2 eb2
          generalize hexS bv 2 = X at HX PS hx2
          generalize (⟨(datP L j).toArray⟩ : ByteArray) = T0 at PL PS ⊢
          have HJ := Lib.hid (And.intro hlt hj)
          have hjK : (j : Int) < (K : Int) := by omega
          clear hj jl
          go_wp2_with fail
          refine (HX.out _).mono ?_
          rintro e w7 ⟨rfl, b7⟩
          have B7 := Lib.hid (HB.out.trans (b7.mono HB.out.size))
          clear b7
          go_wp2_with fail
          exact ⟨⟨j + 1, HJ.out.1, rfl, by rw [← PS.out], B7.out⟩, by have := HJ.out; simp [intOf]; omega⟩
        · obtain rfl : j = K := by omega
          clear hj
          go_wp2_with fail
          go_ret2
          exact ⟨by rw [LW.out, EL.out, EN.out, DA.out]; rfl, HB.out⟩
end Go.Proofs.YthfiaemdpfffcaaGreatDoor
/- List: the lines that bytes consist of. -/
namespace Go.Proofs.YthfiaemdpfffcaaGreatDoor
open Go.RowKit Num Dec
set_option linter.unusedVariables false
set_option linter.unusedSimpArgs false

def lenV : Value → Nat
  | .slice _ n _ => n
  | _ => 0
theorem lineS_list (l : Int) (L : List Int) : (lineS l L).data.toList = lineL l L := rfl

set_option maxRecDepth 100000 in
set_option maxHeartbeats 8000000 in
theorem list_any (A : Option Addr) (n c : Nat) (L : List Int) (l : Int) (hl : (Lit.int .i64 l).wf = true) (w : World) (hL : AL w) (H : Rd w A L) (hb : Bt L) (hn : L.length = n) (n1 : n ≤ 1000) (hc : n ≤ c) :
    Calls Tryz.prog 5 #[.slice A n c, .int .i64 l] w fun e w' => ∃ M, bytesOf M = linesA l L ∧ GotStr M w e w' := by
  obtain ⟨i0, hi, hz0, hz1, hz2⟩ := info_parts infoStr
  have HLL := Lib.hid hL
  have FL := Lib.hid (fun (v : Value) (A : Option Addr) (n c : Nat) (L : List Int) (w : World) => first_line v A n c L l hl w)
  have HH := Lib.hid (And.intro H (And.intro hb (And.intro hn (And.intro n1 hc))))
  clear hL hl H hb hn n1 hc
  go_enter Tryz.func5, Tryz.ntmps5
  go_wp2_with fail
  refine (syntax_any _).mono ?_
  rintro e w1 ⟨v, rfl, sv, b1⟩
  obtain ⟨m, rfl⟩ : ∃ m, v = .map (some m) := ⟨sv.choose, sv.choose_spec.1⟩
  have B1 := Lib.hid b1
  have SV := Lib.hid sv
  clear sv b1
  go_wp2_with fail
  go_loopw [0, 6] (fun v0 v6 wr => ∃ (k r q : Nat) (A2 : Option Addr) (M : List ByteArray), k + r = n ∧ r ≤ q ∧ v0 = .slice A2 r q ∧ Rd w A2 (L.drop k) ∧ wr.ownsRow w1.heap.size 9 1 v6 M.length (M.map Value.string) ∧ M.length ≤ k ∧ bytesOf M ++ linesA l (L.drop k) = linesA l L ∧ Below w1.heap.size w1 wr) (fun v0 _ _ => lenV v0)
  case atStart => exact ⟨0, n, c, A, [], by omega, HH.out.2.2.2.2, rfl, HH.out.1, World.ownsRow_nil _ _ _ _, Nat.zero_le _, rfl, Below.refl _ _⟩
  case round =>
    obtain ⟨k, r, q, A2, M, hk, hq, rfl, hR, ho, hM, hE, hB⟩ := hrel
    have HK := Lib.hid (And.intro hk hM)
    have HR := Lib.hid hR
    have HO := Lib.hid ho
    have HE := Lib.hid hE
    have HB := Lib.hid hB
    clear hR ho hE hB hM
    by_cases h0 : 0 < r
    · have hlen : (L.drop k).length = r := by have := HH.out.2.2.1; rw [List.length_drop]; omega
      have hbd := HH.out.2.1.drop k
      have hln := line_n (l := l) hbd (by omega)
      have HC := Lib.hid (lines_cons (l := l) hbd (by omega))
      have F1 := Lib.hid (FL.out (.map (some m)) A2 r q (L.drop k) wr ((HLL.out.step B1.out).step HB.out) (SV.out.step HB.out) (HR.out.below (B1.out.trans (HB.out.mono B1.out.size))) hbd hlen (by omega) (by have := HH.out.2.2.2.1; omega) hq)
      have HL2 := Lib.hid (lineS_list l (L.drop k))
      have HD := Lib.hid (fun (mm : Nat) => HR.out.cut (k := mm) (cap := q) (by omega))
      rw [hlen] at hln
      generalize lineN l (L.drop k) = mm at hln HC F1
      generalize lineS l (L.drop k) = S at F1 HL2
      have hm1 : mm ≤ r := hln.2.1
      have hi0 : (0 : Int) < (r : Int) := by omega
      have LN := Lib.hid hln
      clear hln hbd hlen
      go_wp2_with fail
      refine F1.out.mono ?_
      rintro e w2 ⟨rfl, b2⟩
      have B2 := Lib.hid (HB.out.trans (b2.mono HB.out.size))
      have O2 := Lib.hid (own_apart (p := wr.heap.size) (g := none) HO.out (Apart.of_below b2) (fun h => by have := (HO.out.lt _ h).2; omega) (fun k hk => by cases hk))
      have S1 : w1.heap.size ≤ w2.heap.size := B2.out.size
      have KM := Lib.hid (show M.length ≤ 1000 by have := HK.out; have := HH.out.2.2.2.1; omega)
      clear b2
      go_upto_region 5 with fail
      refine wp_region_lit ?_
      iterate 9 go_step
      refine wpList_append_own _ rfl (.tmp 20) (.tmp 22) 24 rfl w1.heap.size 9 i0 (.string ⟨#[]⟩) 1 16 Tryz.underlying24 hi hz0 hz1 hz2 rfl (by decide) _ _ _ rfl (O2.out.alloc _) ⟨_, 0, none⟩ 1 1 [.string S] rfl rfl (cell_one_str _ _ _) (by simp [Value.oneCell']) (by have := KM.out; unfold maxLen; omega) (by have := KM.out; omega) (by simp; omega) ?_
      intro v' w3 hown' hgrow _
      have O3 := Lib.hid hown'
      have B3 := Lib.hid ((B2.out.alloc S1 (.cells #[.string S] 9)).grown hgrow (by simp; omega) (fun j hj => (O2.out.lt j hj).1))
      clear hown' hgrow
      simp only [Act.put, List.setIfInBounds_toArray, List.set_cons_zero, List.set_cons_succ]
      iterate 4 go_step
      go_wp2_with fail
      refine ⟨⟨k + mm, r - mm, q - mm, _, M ++ [S], by have := HK.out.1; omega, by omega, rfl, ?_, by simpa using O3.out, by have := HK.out.2; have := LN.out; simp; omega, ?_, B3.out⟩, by have := LN.out; simp [lenV]; omega⟩
      · rw [← List.drop_drop]
        exact HD.out mm
      · rw [← HE.out, HC.out, List.drop_drop, ← HL2.out]
        simp [bytesOf]
    · have hr : r = 0 := by omega
      subst hr
      have HF := Lib.hid (show bytesOf M = linesA l L by
        have h := HE.out
        rw [lines_nil l (by have := HH.out.2.2.1; have := HK.out.1; rw [List.length_drop]; omega), List.append_nil] at h
        exact h)
      obtain ⟨A4, c4, rfl⟩ := own_form HO.out
      clear h0
      go_wp2_with fail
      go_ret
      exact ⟨M, HF.out, A4, c4, rfl, own_mono HO.out B1.out.size, B1.out.trans (HB.out.mono B1.out.size)⟩
end Go.Proofs.YthfiaemdpfffcaaGreatDoor
