/- The rule of an Op, and the opcode of an instruction, as plain mathematics. Nothing of the program. -/
import Derived.Test.YthfiaemdpfffcaaGreatDoorDecLaw
import Derived.KernelRfl
import Derived.Test.YthfiaemdpfffcaaGreatDoorHexNum
namespace Go.Proofs.YthfiaemdpfffcaaGreatDoor.Dec
set_option linter.unusedVariables false
set_option linter.unusedSimpArgs false

/-- The rule of an Op. -/
def ruleOfL (op : Nat) : List Rl → Rl
  | [] => noRl
  | r :: rs => bif Nat.beq r.op op then r else ruleOfL op rs
def ruleOf (op : Nat) : Rl := ruleOfL op rls
theorem ruleOf_top (n : Nat) : ruleOf (top n).op = top n := of_decide_eq_true (top_all (fun r => decide (ruleOf r.op = r)) (by decide +kernel) (by decide +kernel) n)
/-- The opcode of an instruction of the rule r. -/
def encR (r : Rl) (x y n nn addr : Nat) : Nat := match r.pk with
  | .pNone => r.code
  | .pX => r.code + x * 256
  | .pN => r.code + n
  | .pXY => r.code + x * 256 + y * 16
  | .pXYN => r.code + x * 256 + y * 16 + n
  | .pXNN => r.code + x * 256 + nn
  | .pAddr => r.code + addr
  | .pXAddr => r.code + addr
  | .pPlanes => r.code + n * 256
  | .pNext => r.code
/-- The opcode of an instruction. -/
def encN (i : Ins) : Nat := encR (ruleOf i.op.toNat) i.x.toNat i.y.toNat i.n.toNat i.nn.toNat i.addr.toNat
/-- Legal for a level. -/
def Lg (l : Int) (i : Ins) : Prop := ∃ b0 b1 b2 b3 : Nat, b0 < 256 ∧ b1 < 256 ∧ b2 < 256 ∧ b3 < 256 ∧ ok b0 b1 l = true ∧ dec b0 b1 b2 b3 l = i
end Go.Proofs.YthfiaemdpfffcaaGreatDoor.Dec
/- The finite fact of layer 15: an opcode is that of the instruction that it is decoded to. Nothing of the program. -/
namespace Go.Proofs.YthfiaemdpfffcaaGreatDoor.Dec
set_option linter.unusedVariables false
set_option linter.unusedSimpArgs false

/-- The opcode that the first rule that fits makes of the fields. -/
def encK (n x l : Nat) : Nat := bif Nat.beq (Nat.land n 65535) 224 then 224 else bif Nat.beq (Nat.land n 65535) 238 then 238 else bif Nat.beq (Nat.land n 61440) 4096 then (Nat.add 4096 (Nat.add (Nat.mul x 256) l)) else bif Nat.beq (Nat.land n 61440) 8192 then (Nat.add 8192 (Nat.add (Nat.mul x 256) l)) else bif Nat.beq (Nat.land n 61440) 12288 then (Nat.add (Nat.add 12288 (Nat.mul x 256)) l) else bif Nat.beq (Nat.land n 61440) 16384 then (Nat.add (Nat.add 16384 (Nat.mul x 256)) l) else bif Nat.beq (Nat.land n 61455) 20480 then (Nat.add (Nat.add 20480 (Nat.mul x 256)) (Nat.mul (Nat.div l 16) 16)) else bif Nat.beq (Nat.land n 61440) 24576 then (Nat.add (Nat.add 24576 (Nat.mul x 256)) l) else bif Nat.beq (Nat.land n 61440) 28672 then (Nat.add (Nat.add 28672 (Nat.mul x 256)) l) else bif Nat.beq (Nat.land n 61455) 32768 then (Nat.add (Nat.add 32768 (Nat.mul x 256)) (Nat.mul (Nat.div l 16) 16)) else bif Nat.beq (Nat.land n 61455) 32769 then (Nat.add (Nat.add 32769 (Nat.mul x 256)) (Nat.mul (Nat.div l 16) 16)) else bif Nat.beq (Nat.land n 61455) 32770 then (Nat.add (Nat.add 32770 (Nat.mul x 256)) (Nat.mul (Nat.div l 16) 16)) else bif Nat.beq (Nat.land n 61455) 32771 then (Nat.add (Nat.add 32771 (Nat.mul x 256)) (Nat.mul (Nat.div l 16) 16)) else bif Nat.beq (Nat.land n 61455) 32772 then (Nat.add (Nat.add 32772 (Nat.mul x 256)) (Nat.mul (Nat.div l 16) 16)) else bif Nat.beq (Nat.land n 61455) 32773 then (Nat.add (Nat.add 32773 (Nat.mul x 256)) (Nat.mul (Nat.div l 16) 16)) else bif Nat.beq (Nat.land n 61455) 32774 then (Nat.add (Nat.add 32774 (Nat.mul x 256)) (Nat.mul (Nat.div l 16) 16)) else bif Nat.beq (Nat.land n 61455) 32775 then (Nat.add (Nat.add 32775 (Nat.mul x 256)) (Nat.mul (Nat.div l 16) 16)) else bif Nat.beq (Nat.land n 61455) 32782 then (Nat.add (Nat.add 32782 (Nat.mul x 256)) (Nat.mul (Nat.div l 16) 16)) else bif Nat.beq (Nat.land n 61455) 36864 then (Nat.add (Nat.add 36864 (Nat.mul x 256)) (Nat.mul (Nat.div l 16) 16)) else bif Nat.beq (Nat.land n 61440) 40960 then (Nat.add 40960 (Nat.add (Nat.mul x 256) l)) else bif Nat.beq (Nat.land n 61440) 45056 then (Nat.add 45056 (Nat.add (Nat.mul x 256) l)) else bif Nat.beq (Nat.land n 61440) 49152 then (Nat.add (Nat.add 49152 (Nat.mul x 256)) l) else bif Nat.beq (Nat.land n 61455) 53248 then (Nat.add (Nat.add 53248 (Nat.mul x 256)) (Nat.mul (Nat.div l 16) 16)) else bif Nat.beq (Nat.land n 61440) 53248 then (Nat.add (Nat.add (Nat.add 53248 (Nat.mul x 256)) (Nat.mul (Nat.div l 16) 16)) (Nat.mod l 16)) else bif Nat.beq (Nat.land n 61695) 57502 then (Nat.add 57502 (Nat.mul x 256)) else bif Nat.beq (Nat.land n 61695) 57505 then (Nat.add 57505 (Nat.mul x 256)) else bif Nat.beq (Nat.land n 61695) 61447 then (Nat.add 61447 (Nat.mul x 256)) else bif Nat.beq (Nat.land n 61695) 61450 then (Nat.add 61450 (Nat.mul x 256)) else bif Nat.beq (Nat.land n 61695) 61461 then (Nat.add 61461 (Nat.mul x 256)) else bif Nat.beq (Nat.land n 61695) 61464 then (Nat.add 61464 (Nat.mul x 256)) else bif Nat.beq (Nat.land n 61695) 61470 then (Nat.add 61470 (Nat.mul x 256)) else bif Nat.beq (Nat.land n 61695) 61481 then (Nat.add 61481 (Nat.mul x 256)) else bif Nat.beq (Nat.land n 61695) 61491 then (Nat.add 61491 (Nat.mul x 256)) else bif Nat.beq (Nat.land n 61695) 61525 then (Nat.add 61525 (Nat.mul x 256)) else bif Nat.beq (Nat.land n 61695) 61541 then (Nat.add 61541 (Nat.mul x 256)) else bif Nat.beq (Nat.land n 65520) 192 then (Nat.add 192 (Nat.mod l 16)) else bif Nat.beq (Nat.land n 65535) 251 then 251 else bif Nat.beq (Nat.land n 65535) 252 then 252 else bif Nat.beq (Nat.land n 65535) 253 then 253 else bif Nat.beq (Nat.land n 65535) 254 then 254 else bif Nat.beq (Nat.land n 65535) 255 then 255 else bif Nat.beq (Nat.land n 61695) 61488 then (Nat.add 61488 (Nat.mul x 256)) else bif Nat.beq (Nat.land n 61695) 61557 then (Nat.add 61557 (Nat.mul x 256)) else bif Nat.beq (Nat.land n 61695) 61573 then (Nat.add 61573 (Nat.mul x 256)) else bif Nat.beq (Nat.land n 65520) 208 then (Nat.add 208 (Nat.mod l 16)) else bif Nat.beq (Nat.land n 61455) 20482 then (Nat.add (Nat.add 20482 (Nat.mul x 256)) (Nat.mul (Nat.div l 16) 16)) else bif Nat.beq (Nat.land n 61455) 20483 then (Nat.add (Nat.add 20483 (Nat.mul x 256)) (Nat.mul (Nat.div l 16) 16)) else bif Nat.beq (Nat.land n 65535) 61440 then 61440 else bif Nat.beq (Nat.land n 61695) 61441 then (Nat.add 61441 (Nat.mul x 256)) else bif Nat.beq (Nat.land n 65535) 61442 then 61442 else bif Nat.beq (Nat.land n 61695) 61498 then (Nat.add 61498 (Nat.mul x 256)) else n
def nOf (p : Pk) (x n : Nat) : Nat := match p with | .pPlanes => x | _ => n
def encF (n x l : Nat) (r : Rl) (m : Nat) : Nat := bif fit n r then encR r x (l / 16) (nOf r.pk x (l % 16)) l (x * 256 + l) else m
theorem encTop (n x l : Nat) : ∀ L : List Rl, (topOf n L).op ≠ 0 → encR (topOf n L) x (l / 16) (nOf (topOf n L).pk x (l % 16)) l (x * 256 + l) = L.foldr (encF n x l) n
  | [], h => absurd rfl h
  | r :: rs, h => by
    unfold topOf at h ⊢
    rw [List.foldr_cons]
    unfold encF
    cases hf : fit n r
    · rw [hf] at h
      exact encTop n x l rs h
    · rfl
set_option maxRecDepth 100000 in
theorem encK_eq (n x l : Nat) : rls.foldr (encF n x l) n = encK n x l := by kernel_rfl
theorem enc0 : (allb 16 fun x => allb 256 fun l => Nat.beq (encK (Nat.add (Nat.mul x 256) (Nat.add 0 l)) x l) (Nat.add (Nat.mul x 256) (Nat.add 0 l))) = true := by decide +kernel
theorem enc1 : (allb 16 fun x => allb 256 fun l => Nat.beq (encK (Nat.add (Nat.mul x 256) (Nat.add 4096 l)) x l) (Nat.add (Nat.mul x 256) (Nat.add 4096 l))) = true := by decide +kernel
theorem enc2 : (allb 16 fun x => allb 256 fun l => Nat.beq (encK (Nat.add (Nat.mul x 256) (Nat.add 8192 l)) x l) (Nat.add (Nat.mul x 256) (Nat.add 8192 l))) = true := by decide +kernel
theorem enc3 : (allb 16 fun x => allb 256 fun l => Nat.beq (encK (Nat.add (Nat.mul x 256) (Nat.add 12288 l)) x l) (Nat.add (Nat.mul x 256) (Nat.add 12288 l))) = true := by decide +kernel
theorem enc4 : (allb 16 fun x => allb 256 fun l => Nat.beq (encK (Nat.add (Nat.mul x 256) (Nat.add 16384 l)) x l) (Nat.add (Nat.mul x 256) (Nat.add 16384 l))) = true := by decide +kernel
theorem enc5 : (allb 16 fun x => allb 256 fun l => Nat.beq (encK (Nat.add (Nat.mul x 256) (Nat.add 20480 l)) x l) (Nat.add (Nat.mul x 256) (Nat.add 20480 l))) = true := by decide +kernel
theorem enc6 : (allb 16 fun x => allb 256 fun l => Nat.beq (encK (Nat.add (Nat.mul x 256) (Nat.add 24576 l)) x l) (Nat.add (Nat.mul x 256) (Nat.add 24576 l))) = true := by decide +kernel
theorem enc7 : (allb 16 fun x => allb 256 fun l => Nat.beq (encK (Nat.add (Nat.mul x 256) (Nat.add 28672 l)) x l) (Nat.add (Nat.mul x 256) (Nat.add 28672 l))) = true := by decide +kernel
theorem enc8 : (allb 16 fun x => allb 256 fun l => Nat.beq (encK (Nat.add (Nat.mul x 256) (Nat.add 32768 l)) x l) (Nat.add (Nat.mul x 256) (Nat.add 32768 l))) = true := by decide +kernel
theorem enc9 : (allb 16 fun x => allb 256 fun l => Nat.beq (encK (Nat.add (Nat.mul x 256) (Nat.add 36864 l)) x l) (Nat.add (Nat.mul x 256) (Nat.add 36864 l))) = true := by decide +kernel
theorem enc10 : (allb 16 fun x => allb 256 fun l => Nat.beq (encK (Nat.add (Nat.mul x 256) (Nat.add 40960 l)) x l) (Nat.add (Nat.mul x 256) (Nat.add 40960 l))) = true := by decide +kernel
theorem enc11 : (allb 16 fun x => allb 256 fun l => Nat.beq (encK (Nat.add (Nat.mul x 256) (Nat.add 45056 l)) x l) (Nat.add (Nat.mul x 256) (Nat.add 45056 l))) = true := by decide +kernel
theorem enc12 : (allb 16 fun x => allb 256 fun l => Nat.beq (encK (Nat.add (Nat.mul x 256) (Nat.add 49152 l)) x l) (Nat.add (Nat.mul x 256) (Nat.add 49152 l))) = true := by decide +kernel
theorem enc13 : (allb 16 fun x => allb 256 fun l => Nat.beq (encK (Nat.add (Nat.mul x 256) (Nat.add 53248 l)) x l) (Nat.add (Nat.mul x 256) (Nat.add 53248 l))) = true := by decide +kernel
theorem enc14 : (allb 16 fun x => allb 256 fun l => Nat.beq (encK (Nat.add (Nat.mul x 256) (Nat.add 57344 l)) x l) (Nat.add (Nat.mul x 256) (Nat.add 57344 l))) = true := by decide +kernel
theorem enc15 : (allb 16 fun x => allb 256 fun l => Nat.beq (encK (Nat.add (Nat.mul x 256) (Nat.add 61440 l)) x l) (Nat.add (Nat.mul x 256) (Nat.add 61440 l))) = true := by decide +kernel
theorem enc_hd (hd x l : Nat) (h0 : hd < 16) (h1 : x < 16) (h2 : l < 256) : encK (x * 256 + (hd * 4096 + l)) x l = x * 256 + (hd * 4096 + l) := by
  have hh : hd = 0 ∨ hd = 1 ∨ hd = 2 ∨ hd = 3 ∨ hd = 4 ∨ hd = 5 ∨ hd = 6 ∨ hd = 7 ∨ hd = 8 ∨ hd = 9 ∨ hd = 10 ∨ hd = 11 ∨ hd = 12 ∨ hd = 13 ∨ hd = 14 ∨ hd = 15 := by omega
  rcases hh with rfl | rfl | rfl | rfl | rfl | rfl | rfl | rfl | rfl | rfl | rfl | rfl | rfl | rfl | rfl | rfl
  · exact Nat.eq_of_beq_eq_true (allb_at 256 _ (allb_at 16 _ enc0 x h1) l h2)
  · exact Nat.eq_of_beq_eq_true (allb_at 256 _ (allb_at 16 _ enc1 x h1) l h2)
  · exact Nat.eq_of_beq_eq_true (allb_at 256 _ (allb_at 16 _ enc2 x h1) l h2)
  · exact Nat.eq_of_beq_eq_true (allb_at 256 _ (allb_at 16 _ enc3 x h1) l h2)
  · exact Nat.eq_of_beq_eq_true (allb_at 256 _ (allb_at 16 _ enc4 x h1) l h2)
  · exact Nat.eq_of_beq_eq_true (allb_at 256 _ (allb_at 16 _ enc5 x h1) l h2)
  · exact Nat.eq_of_beq_eq_true (allb_at 256 _ (allb_at 16 _ enc6 x h1) l h2)
  · exact Nat.eq_of_beq_eq_true (allb_at 256 _ (allb_at 16 _ enc7 x h1) l h2)
  · exact Nat.eq_of_beq_eq_true (allb_at 256 _ (allb_at 16 _ enc8 x h1) l h2)
  · exact Nat.eq_of_beq_eq_true (allb_at 256 _ (allb_at 16 _ enc9 x h1) l h2)
  · exact Nat.eq_of_beq_eq_true (allb_at 256 _ (allb_at 16 _ enc10 x h1) l h2)
  · exact Nat.eq_of_beq_eq_true (allb_at 256 _ (allb_at 16 _ enc11 x h1) l h2)
  · exact Nat.eq_of_beq_eq_true (allb_at 256 _ (allb_at 16 _ enc12 x h1) l h2)
  · exact Nat.eq_of_beq_eq_true (allb_at 256 _ (allb_at 16 _ enc13 x h1) l h2)
  · exact Nat.eq_of_beq_eq_true (allb_at 256 _ (allb_at 16 _ enc14 x h1) l h2)
  · exact Nat.eq_of_beq_eq_true (allb_at 256 _ (allb_at 16 _ enc15 x h1) l h2)
/-- The rule of an opcode makes it of its fields. -/
theorem enc_top (b0 b1 : Nat) (h0 : b0 < 256) (h1 : b1 < 256) (ho : (top (b0 * 256 + b1)).op ≠ 0) : encR (top (b0 * 256 + b1)) (dx b0) (b1 / 16) (nOf (top (b0 * 256 + b1)).pk (dx b0) (b1 % 16)) b1 (dx b0 * 256 + b1) = b0 * 256 + b1 := by
  have h := enc_hd (b0 / 16) (dx b0) b1 (by omega) (by unfold dx; omega) h1
  have e : dx b0 * 256 + (b0 / 16 * 4096 + b1) = b0 * 256 + b1 := by unfold dx; omega
  rw [e] at h
  exact (encTop _ _ _ rls ho).trans ((encK_eq _ _ _).trans h)
/-- The opcode of a decoded instruction. -/
theorem enc_dec {b0 b1 b2 b3 : Nat} {l : Int} (h0 : b0 < 256) (h1 : b1 < 256) (h : ok b0 b1 l = true) : encN (dec b0 b1 b2 b3 l) = b0 * 256 + b1 := by
  have ht := enc_top b0 b1 h0 h1 (ok_op h)
  rw [decYes h rfl]
  unfold encN
  simp only [Int.toNat_natCast]
  rw [ruleOf_top]
  generalize top (b0 * 256 + b1) = r at *
  rw [← ht]
  obtain ⟨m, c, o, lv, p⟩ := r
  cases p <;> simp [encR, pX, pY, pN, pNN, pA, nOf] <;> omega
end Go.Proofs.YthfiaemdpfffcaaGreatDoor.Dec
/- Texts of instructions: a text determines its instruction. Nothing of the program. -/
namespace Go.Proofs.YthfiaemdpfffcaaGreatDoor.Dec
open Num
set_option linter.unusedVariables false
set_option linter.unusedSimpArgs false

/-- The words of the Ops. -/
def wds : List (List UInt8) := [
  [],
  [99, 108, 101, 97, 114],
  [114, 101, 116, 117, 114, 110],
  [106, 117, 109, 112],
  [99, 97, 108, 108],
  [115, 107, 105, 112, 46, 101, 113],
  [115, 107, 105, 112, 46, 110, 101],
  [115, 107, 105, 112, 46, 101, 113, 118],
  [115, 101, 116],
  [97, 100, 100],
  [109, 111, 118, 101],
  [111, 114],
  [97, 110, 100],
  [120, 111, 114],
  [97, 100, 100, 118],
  [115, 117, 98],
  [115, 104, 114],
  [115, 117, 98, 110],
  [115, 104, 108],
  [115, 107, 105, 112, 46, 110, 101, 118],
  [115, 101, 116, 105],
  [106, 117, 109, 112, 97, 100, 100],
  [114, 97, 110, 100, 111, 109],
  [100, 114, 97, 119],
  [115, 107, 105, 112, 46, 107, 101, 121],
  [115, 107, 105, 112, 46, 110, 111, 107, 101, 121],
  [103, 101, 116, 100, 101, 108, 97, 121],
  [119, 97, 105, 116, 107, 101, 121],
  [115, 101, 116, 100, 101, 108, 97, 121],
  [115, 101, 116, 115, 111, 117, 110, 100],
  [97, 100, 100, 105],
  [103, 108, 121, 112, 104],
  [100, 101, 99, 105, 109, 97, 108],
  [115, 116, 111, 114, 101],
  [108, 111, 97, 100],
  [100, 111, 119, 110],
  [114, 105, 103, 104, 116],
  [108, 101, 102, 116],
  [101, 120, 105, 116],
  [108, 111, 114, 101, 115],
  [104, 105, 114, 101, 115],
  [100, 114, 97, 119, 98, 105, 103],
  [98, 105, 103, 103, 108, 121, 112, 104],
  [115, 97, 118, 101],
  [114, 101, 115, 116, 111, 114, 101],
  [117, 112],
  [115, 116, 111, 114, 101, 114, 97, 110, 103, 101],
  [108, 111, 97, 100, 114, 97, 110, 103, 101],
  [108, 111, 110, 103, 105],
  [112, 108, 97, 110, 101, 115],
  [112, 97, 116, 116, 101, 114, 110],
  [112, 105, 116, 99, 104]]
def wdL (op : Nat) : List UInt8 := wds.getD op []
/-- The operands, each with the blank before it. -/
def vL (x : Nat) : List UInt8 := [32, 86] ++ hexL x 1
def dL (n k : Nat) : List UInt8 := [32] ++ hexL n k
def opsL (p : Pk) (x y n nn a : Nat) : List UInt8 := match p with
  | .pNone => []
  | .pX => vL x
  | .pN => dL n 1
  | .pXY => vL x ++ vL y
  | .pXYN => vL x ++ vL y ++ dL n 1
  | .pXNN => vL x ++ dL nn 2
  | .pAddr => dL a 3
  | .pXAddr => dL a 3
  | .pPlanes => dL n 1
  | .pNext => dL a 4
def txtL (i : Ins) : List UInt8 := wdL i.op.toNat ++ opsL (ruleOf i.op.toNat).pk i.x.toNat i.y.toNat i.n.toNat i.nn.toNat i.addr.toNat
def txtS (i : Ins) : ByteArray := ⟨(txtL i).toArray⟩
theorem txtS_inj {i j : Ins} (h : txtS i = txtS j) : txtL i = txtL j := by
  have := congrArg (fun s : ByteArray => s.data.toList) h
  simpa [txtS] using this

/-- What a legal instruction is made of. -/
structure Made (i : Ins) (r : Rl) (x y n nn a : Nat) : Prop where
  kind : KindOk r
  rule : ruleOf r.op = r
  op : r.op ≠ 0
  top : r.op ≤ 51
  x16 : x < 16
  y16 : y < 16
  n16 : n < 16
  nn256 : nn < 256
  a16 : a < 65536
  is : i = ⟨r.op, pX r.pk x, pY r.pk y, pN r.pk x n, pNN r.pk nn, pA r.pk (x * 256 + nn : Nat) a, if r.op = 48 then 4 else 2⟩
theorem Lg.made {l : Int} {i : Ins} (h : Lg l i) : ∃ r x y n nn a, Made i r x y n nn a := by
  obtain ⟨b0, b1, b2, b3, h0, h1, h2, h3, hk, rfl⟩ := h
  rcases dec_cases b0 b1 b2 b3 l h0 h1 with ⟨k, _⟩ | ⟨_, r, hr, kr, ho, s, e⟩
  · rw [k] at hk; cases hk
  · refine ⟨r, dx b0, b1 / 16, b1 % 16, b1, b2 * 256 + b3, kr, by rw [← hr]; exact ruleOf_top _, ho, ?_, by unfold dx; omega, by omega, by omega, h1, by omega, e⟩
    obtain ⟨_, _, _, _, _, _, _, hh, _⟩ := kr
    rcases hh with hh | hh
    · omega
    · exact hh.2.2.2.1
section
variable {i j : Ins} {r q : Rl} {x y n nn a x' y' n' nn' a' : Nat}
theorem Made.opN (m : Made i r x y n nn a) : i.op.toNat = r.op := by rw [m.is]; simp
theorem Made.txt (m : Made i r x y n nn a) : txtL i = wdL r.op ++ opsL r.pk x y (match r.pk with | .pPlanes => x | _ => n) nn (match r.pk with | .pNext => a | _ => x * 256 + nn) := by
  unfold txtL
  rw [m.opN, m.rule]
  have e := m.is
  subst e
  obtain ⟨mk, c, o, lv, p⟩ := r
  cases p <;> simp [opsL, pX, pY, pN, pNN, pA] <;> rw [show ((x : Int) * 256 + (nn : Int)).toNat = x * 256 + nn by omega]
end
theorem wd_blank : ∀ op : Fin 52, (wdL op.val).all (fun c => c != 32) = true := by decide +kernel
theorem wd_inj : ∀ a b : Fin 52, wdL a.val = wdL b.val → a = b := by decide +kernel
/-- The first word. -/
def fstL (l : List UInt8) : List UInt8 := l.takeWhile (fun c => c != 32)
theorem ops_head (p : Pk) (x y n nn a : Nat) : opsL p x y n nn a = [] ∨ ∃ t, opsL p x y n nn a = 32 :: t := by
  cases p <;> first | exact .inl rfl | exact .inr ⟨_, rfl⟩
theorem fst_word {w t : List UInt8} (hw : w.all (fun c => c != 32) = true) (ht : t = [] ∨ ∃ s, t = 32 :: s) : fstL (w ++ t) = w := by
  unfold fstL
  rw [List.takeWhile_append_of_pos (by simpa using hw)]
  rcases ht with rfl | ⟨s, rfl⟩
  · simp
  · simp
theorem Made.fst {i : Ins} {r : Rl} {x y n nn a : Nat} (m : Made i r x y n nn a) : fstL (txtL i) = wdL r.op := by
  rw [m.txt]
  exact fst_word (wd_blank ⟨r.op, by have := m.top; omega⟩) (ops_head _ _ _ _ _ _)
theorem hexL_eq {k a b : Nat} (ha : a < 16 ^ k) (hb : b < 16 ^ k) (h : hexL a k = hexL b k) : a = b := by
  have := hexL_inj k a b h
  rwa [Nat.mod_eq_of_lt ha, Nat.mod_eq_of_lt hb] at this
theorem vL_len (x : Nat) : (vL x).length = 3 := by simp [vL, hexL_len]
theorem dL_len (x k : Nat) : (dL x k).length = 1 + k := by simp [dL, hexL_len]; omega
theorem vL_inj {a b : Nat} (ha : a < 16) (hb : b < 16) (h : vL a = vL b) : a = b := by
  unfold vL at h
  exact hexL_eq (k := 1) (by omega) (by omega) (List.append_cancel_left h)
theorem dL_inj {a b k : Nat} (ha : a < 16 ^ k) (hb : b < 16 ^ k) (h : dL a k = dL b k) : a = b := by
  unfold dL at h
  exact hexL_eq ha hb (List.append_cancel_left h)
theorem vL_split {a b : Nat} {s t : List UInt8} (h : vL a ++ s = vL b ++ t) : vL a = vL b ∧ s = t := List.append_inj h (by rw [vL_len, vL_len])
/-- A text determines its instruction. -/
theorem txt_inj {l m : Int} {i j : Ins} (hi : Lg l i) (hj : Lg m j) (h : txtL i = txtL j) : i = j := by
  obtain ⟨r, x, y, n, nn, a, mi⟩ := hi.made
  obtain ⟨q, x', y', n', nn', a', mj⟩ := hj.made
  have hw := mi.fst
  rw [h, mj.fst] at hw
  have ho := wd_inj ⟨q.op, by have := mj.top; omega⟩ ⟨r.op, by have := mi.top; omega⟩ hw
  simp only [Fin.mk.injEq] at ho
  have hr : q = r := by rw [← mj.rule, ← mi.rule, ho]
  subst hr
  rw [mi.txt, mj.txt] at h
  have h := List.append_cancel_left h
  have a1 := mi.x16
  have a2 := mi.y16
  have a3 := mi.n16
  have a4 := mi.nn256
  have a5 := mi.a16
  have c1 := mj.x16
  have c2 := mj.y16
  have c3 := mj.n16
  have c4 := mj.nn256
  have c5 := mj.a16
  rw [mi.is, mj.is]
  clear mi mj hw ho
  obtain ⟨mk, c, o, lv, p⟩ := q
  cases p <;> simp only [opsL, pX, pY, pN, pNN, pA] at h ⊢
  · rw [vL_inj a1 c1 h]
  · rw [dL_inj (k := 1) (by omega) (by omega) h]
  · obtain ⟨h1, h2⟩ := vL_split h
    rw [vL_inj a1 c1 h1, vL_inj a2 c2 h2]
  · rw [List.append_assoc, List.append_assoc] at h
    obtain ⟨h1, h2⟩ := vL_split h
    obtain ⟨h2, h3⟩ := vL_split h2
    rw [vL_inj a1 c1 h1, vL_inj a2 c2 h2, dL_inj (k := 1) (by omega) (by omega) h3]
  · obtain ⟨h1, h2⟩ := vL_split h
    rw [vL_inj a1 c1 h1, dL_inj (k := 2) (by omega) (by omega) h2]
  · rw [dL_inj (k := 3) (by omega) (by omega) h]
  · have e := dL_inj (k := 3) (by omega) (by omega) h
    rw [e, show x = x' by omega]
  · rw [dL_inj (k := 1) (by omega) (by omega) h]
  · rw [dL_inj (k := 4) (by omega) (by omega) h]
/-- The word 'data' is that of no Op. -/
theorem no_data : ∀ op : Fin 52, wdL op.val ≠ [100, 97, 116, 97] := by decide +kernel
theorem Lg.data {l : Int} {i : Ins} (h : Lg l i) (t : List UInt8) : txtL i ≠ [100, 97, 116, 97] ++ 32 :: t := by
  intro e
  obtain ⟨r, x, y, n, nn, a, m⟩ := h.made
  have hw := m.fst
  rw [e, fst_word (by decide) (.inr ⟨t, rfl⟩)] at hw
  exact no_data ⟨r.op, by have := m.top; omega⟩ hw.symm
theorem Lg.fst_eq {l m : Int} {i j : Ins} (hi : Lg l i) (hj : Lg m j) : (fstL (txtL i) = fstL (txtL j)) ↔ i.op = j.op := by
  obtain ⟨r, x, y, n, nn, a, mi⟩ := hi.made
  obtain ⟨q, x', y', n', nn', a', mj⟩ := hj.made
  rw [mi.fst, mj.fst]
  have ei : i.op = r.op := by rw [mi.is]
  have ej : j.op = q.op := by rw [mj.is]
  constructor
  · intro h
    have ho := wd_inj ⟨r.op, by have := mi.top; omega⟩ ⟨q.op, by have := mj.top; omega⟩ h
    simp only [Fin.mk.injEq] at ho
    omega
  · intro h
    rw [show r.op = q.op by omega]
/-- Legal for a level: legal for all greater ones. -/
theorem Lg.mono {l m : Int} {i : Ins} (h : Lg l i) (hl : l ≤ m) (h3 : m ≤ 3) : Lg m i := by
  obtain ⟨b0, b1, b2, b3, h0, h1, h2, h3', hk, rfl⟩ := h
  have km := ok_mono hk hl h3
  refine ⟨b0, b1, b2, b3, h0, h1, h2, h3', km, ?_⟩
  rw [decYes km rfl, decYes hk rfl, skl_ok h0 h1 km, skl_ok h0 h1 hk]
theorem Lg.level {l : Int} {i : Ins} (h : Lg l i) : 1 ≤ l ∧ l ≤ 3 := by
  obtain ⟨b0, b1, b2, b3, h0, h1, h2, h3, hk, rfl⟩ := h
  have e := ok_other (b0 := b0) (b1 := b1) (l := l)
  by_cases c : 1 ≤ l ∧ l ≤ 3
  · exact c
  · rw [e c] at hk; cases hk
/-- The two bytes, or four, of an instruction: decoded, they give it again. -/
theorem Lg.back {l : Int} {i : Ins} (h : Lg l i) : encN i < 65536 ∧ 0 ≤ i.addr ∧ i.addr ≤ 65535 ∧ ok (encN i / 256) (encN i % 256) l = true ∧ (i.op = 48 ↔ i.len = 4) ∧ (i.len = 2 ∨ i.len = 4) ∧
    (∀ c d : Nat, c < 256 → d < 256 → (i.op = 48 → (c * 256 + d : Nat) = i.addr) → dec (encN i / 256) (encN i % 256) c d l = i) := by
  obtain ⟨b0, b1, b2, b3, h0, h1, h2, h3, hk, rfl⟩ := h
  have he := enc_dec (b2 := b2) (b3 := b3) h0 h1 hk
  have hrg := dec_range b0 b1 b2 b3 l h0 h1 h2 h3 rfl
  rw [he, show (b0 * 256 + b1) / 256 = b0 by omega, show (b0 * 256 + b1) % 256 = b1 by omega]
  rcases dec_cases b0 b1 b2 b3 l h0 h1 with ⟨k, _⟩ | ⟨_, r, hr, kr, ho, s, e⟩
  · rw [k] at hk; cases hk
  · refine ⟨by omega, hrg.2.2.2.2.2.1, hrg.2.2.2.2.2.2, hk, ?_, ?_, ?_⟩
    · rw [e]; simp only; split <;> omega
    · rw [e]; simp only; split <;> omega
    · intro c d hc hd ha
      rcases dec_tail b0 b1 b2 b3 c d l h0 h1 with ⟨t1, t2, t3, t4⟩ | ⟨t1, t2, t3⟩
      · have ha := ha t1
        rw [decYes hk hr, e]
        rw [e] at ha t1
        simp only at ha t1
        have hp := (op_long kr).1 (by omega)
        rw [hp] at ha ⊢
        simp only [pA] at ha ⊢
        rw [s, ha]
      · exact t2
end Go.Proofs.YthfiaemdpfffcaaGreatDoor.Dec
