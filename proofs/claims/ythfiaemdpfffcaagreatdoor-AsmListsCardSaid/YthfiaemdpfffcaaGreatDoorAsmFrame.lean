/- What the frames round the walks of layer 15 need: the tables and the errors that the rows list; instructions as arguments. -/
import Derived.Test.YthfiaemdpfffcaaGreatDoorRows
import Derived.Test.YthfiaemdpfffcaaGreatDoorAsmSyn
import Derived.Test.YthfiaemdpfffcaaGreatDoorDecTab
import Derived.WalkKit
import Derived.ProofKit
import Derived.LaidMore
import Derived.LaidLaws
import Derived.LaidHandle
import Derived.OpenShut
import Derived.ShutString
import Derived.ChangeOld
import Derived.Below
import Derived.Stop.Joined
import Derived.MakeChecks
namespace Go.Proofs.YthfiaemdpfffcaaGreatDoor
open Go.ChangeShapes Go.WideShapes Go.ChangeAt Go.RowKit Num Dec
set_option linter.unusedVariables false
set_option linter.unusedSimpArgs false

theorem laidOut : laidOutB Tryz.prog = true := by kernel_rfl
section
variable {H : Type} {enc : TypeId × Value → H} {P : Program} {w : World} {base : Nat} {sp : Nat → Bool} {held : Bool}
theorem iarr_cells {t e : TypeId} {K fuel : Nat} {cs : List Value} {x : DataW H × List MemPlace} (ht : P.underlying t = some (.array K e)) (he : P.underlying e = some (.int .i64)) (h1 : P.cellsOf e = 1)
    (h : DataW.trod enc P w base sp held fuel t cs = some x) {L : List Int} (hx : x.1 = .agg (L.map fun n => .lit (.int .i64 n))) : L.length = K ∧ ∀ j (hj : j < L.length), cs[j]? = some (.int .i64 L[j]) := by
  obtain ⟨xs, m, _, rfl, _, hn, hel⟩ := DataW.trod_array ht h
  have hm : xs.map (·.1) = L.map fun n => DataW.lit (.int .i64 n) := by simpa using hx
  have hl : xs.length = L.length := by have := congrArg List.length hm; simpa using this
  refine ⟨by omega, fun j hj => ?_⟩
  have hjx : j < xs.length := by omega
  have h2 := hel j (by omega)
  rw [h1, List.getElem?_eq_getElem hjx, Nat.mul_one] at h2
  obtain ⟨n, e1, e2, _⟩ := DataW.trod_int he h2
  have e3 : (xs.map (·.1))[j]? = some (.lit (.int .i64 L[j])) := by rw [hm]; simp [hj]
  rw [List.getElem?_map, List.getElem?_eq_getElem hjx, e2] at e3
  simp at e3
  subst e3
  have e4 : ((cs.drop j).take 1)[0]? = some (.int .i64 L[j]) := by rw [e1]; rfl
  simpa using e4
theorem sarr_cells {t e : TypeId} {K fuel : Nat} {cs : List Value} {x : DataW H × List MemPlace} (ht : P.underlying t = some (.array K e)) (he : P.underlying e = some .string) (h1 : P.cellsOf e = 1)
    (h : DataW.trod enc P w base sp held fuel t cs = some x) {L : List (List UInt8)} (hx : x.1 = .agg (L.map fun s => .lit (.string s))) : L.length = K ∧ ∀ j (hj : j < L.length), cs[j]? = some (.string ⟨L[j].toArray⟩) := by
  obtain ⟨xs, m, _, rfl, _, hn, hel⟩ := DataW.trod_array ht h
  have hm : xs.map (·.1) = L.map fun s => DataW.lit (.string s) := by simpa using hx
  have hl : xs.length = L.length := by have := congrArg List.length hm; simpa using this
  refine ⟨by omega, fun j hj => ?_⟩
  have hjx : j < xs.length := by omega
  have h2 := hel j (by omega)
  rw [h1, List.getElem?_eq_getElem hjx, Nat.mul_one] at h2
  obtain ⟨s, e1, e2, _⟩ := DataW.trod_string he h2
  have e3 : (xs.map (·.1))[j]? = some (.lit (.string L[j])) := by rw [hm]; simp [hj]
  rw [List.getElem?_map, List.getElem?_eq_getElem hjx, e2] at e3
  simp at e3
  have es : s = ⟨L[j].toArray⟩ := by
    apply ByteArray.ext
    rw [← e3]
  have e4 : ((cs.drop j).take 1)[0]? = some (.string ⟨L[j].toArray⟩) := by rw [e1, es]; rfl
  simpa using e4
end
theorem gRng : Tryz.prog.globalNamed "strconv.ErrRange" = some 3 := by kernel_rfl
theorem gSyn : Tryz.prog.globalNamed "strconv.ErrSyntax" = some 2 := by kernel_rfl
theorem gWrd : Tryz.prog.globalNamed "cosmac/asm.words" = some 1 := by kernel_rfl
theorem gOpc : Tryz.prog.globalNamed "cosmac/asm.opcodes" = some 0 := by kernel_rfl
theorem tRng : (Tryz.prog.globals[3]?).map (·.type) = some 94 := by kernel_rfl
theorem tSyn : (Tryz.prog.globals[2]?).map (·.type) = some 94 := by kernel_rfl
theorem tWrd : (Tryz.prog.globals[1]?).map (·.type) = some 82 := by kernel_rfl
theorem tOpc : (Tryz.prog.globals[0]?).map (·.type) = some 69 := by kernel_rfl
def laidL : List (String × DataW Unit) := [("math/bits.deBruijn32tab", Rows.laid_math_bits_deBruijn32tab), ("math/bits.deBruijn64tab", Rows.laid_math_bits_deBruijn64tab), ("internal/strconv.uint64pow10", Rows.laid_internal_strconv_uint64pow10), ("strconv.ErrRange", Rows.laid_strconv_ErrRange), ("strconv.ErrSyntax", Rows.laid_strconv_ErrSyntax), ("cosmac/asm.words", Rows.laid_cosmac_asm_words), ("cosmac/asm.opcodes", Rows.laid_cosmac_asm_opcodes)]
set_option maxRecDepth 100000 in
theorem door_met (os : Os) (args : Array Value) : laidMetH Tryz.prog laidL ((World.doorLaid Tryz.prog 400 os).forCall (fun _ _ => 0) ⟨#[], args, []⟩).memory :=
  laidMetH_of_parts3 (fuel := 8) (laidMet_of_run' 8 (by kernel_rfl) (by kernel_rfl)) (by kernel_rfl) (by kernel_rfl)
set_option maxRecDepth 100000 in
theorem words_data : (Rows.laid_cosmac_asm_words : DataW Unit) = .agg (wds.map fun s => .lit (.string s)) := by kernel_rfl
def opcs : List Int := (List.range 52).map fun op => ((ruleOf op).code : Int)
set_option maxRecDepth 100000 in
theorem opcs_data : (Rows.laid_cosmac_asm_opcodes : DataW Unit) = .agg (opcs.map fun n => .lit (.int .i64 n)) := by kernel_rfl
set_option maxRecDepth 100000 in
theorem of_laid {W : World} (h : laidMetH Tryz.prog laidL W) : AL W := by
  rw [MakeChecks.laidMetH_plain _ _ _ (by kernel_rfl)] at h
  obtain ⟨ps, ⟨_, _, _, _, _, _, _, _, _, _, ⟨_, _, _, _, _, _, _, _, _, _, ⟨_, _, _, _, _, _, _, _, _, _, ⟨g3, t3, cs3, f3, p3, q3, hg3, ht3, hv3, hd3, ⟨g4, t4, cs4, f4, p4, q4, hg4, ht4, hv4, hd4, ⟨g5, t5, cs5, f5, p5, q5, hg5, ht5, hv5, hd5, ⟨g6, t6, cs6, f6, p6, q6, hg6, ht6, hv6, hd6, _⟩, _⟩, _⟩, _⟩, _⟩, _⟩, _⟩, _, _⟩ := h
  obtain rfl := Option.some.inj (gRng.symm.trans hg3)
  obtain rfl := Option.some.inj (tRng.symm.trans ht3)
  obtain rfl := Option.some.inj (gSyn.symm.trans hg4)
  obtain rfl := Option.some.inj (tSyn.symm.trans ht4)
  obtain rfl := Option.some.inj (gWrd.symm.trans hg5)
  obtain rfl := Option.some.inj (tWrd.symm.trans ht5)
  obtain rfl := Option.some.inj (gOpc.symm.trans hg6)
  obtain rfl := Option.some.inj (tOpc.symm.trans ht6)
  have k5 := (sarr_cells Tryz.underlying82 Tryz.underlying9 (by kernel_rfl) hd5 words_data).2
  have k6 := (iarr_cells Tryz.underlying69 Tryz.underlying3 (by kernel_rfl) hd6 opcs_data).2
  have c5 : ∀ op : Nat, op < 52 → W.cell? ⟨1, op, none⟩ = some (.string ⟨(wdL op).toArray⟩) := fun op ho => by
    have hl : op < wds.length := ho
    have := k5 op hl
    rw [World.var?_cell hg5 hv5 op, ← Array.getElem?_toList, this]
    unfold wdL
    rw [List.getD_eq_getElem?_getD, List.getElem?_eq_getElem hl]
    rfl
  have c6 : ∀ op : Nat, op < 52 → W.cell? ⟨0, op, none⟩ = some (.int .i64 ((ruleOf op).code : Int)) := fun op ho => by
    have hl : op < opcs.length := by simpa [opcs] using ho
    have := k6 op hl
    rw [World.var?_cell hg6 hv6 op, ← Array.getElem?_toList, this]
    congr 2
    simp [opcs]
  obtain ⟨_, u3, v3, e3, _⟩ := iface_of_trod Tryz.underlying94 hd3
  obtain ⟨_, u4, v4, e4, _⟩ := iface_of_trod Tryz.underlying94 hd4
  have c3 : W.cell? ⟨3, 0, none⟩ = some (.iface u3 v3) := by
    rw [World.var?_cell hg3 hv3 0, ← Array.getElem?_toList, e3]
    rfl
  have c4 : W.cell? ⟨2, 0, none⟩ = some (.iface u4 v4) := by
    rw [World.var?_cell hg4 hv4 0, ← Array.getElem?_toList, e4]
    rfl
  exact ⟨⟨World.block_lt_of_cell? W _ (c6 0 (by decide)), World.block_lt_of_cell? W _ (c5 0 (by decide)), World.block_lt_of_cell? W _ c4, World.block_lt_of_cell? W _ c3⟩, c6, c5, ⟨u4, v4, c4⟩, ⟨u3, v3, c3⟩⟩

set_option maxRecDepth 100000 in
theorem open_instr {H : Type} {enc : TypeId × Value → H} {w : World} {base : Nat} {sp : Nat → Bool} {held : Bool} {r : Reach} {b0' : Nat} {v : Value} {d : DataW H} {p : List MemPlace} (hv : Value.okWide Tryz.prog w r b0' 33 v) (h : DataW.Trod enc Tryz.prog w base sp held 33 v d p) :
    ∃ (o : Int) (x : Int) (y : Int) (n : Int) (nn : Int) (a : Int) (len : Int), v = .agg #[.int .i64 o, .int .i64 x, .int .i64 y, .int .i64 n, .int .i64 nn, .int .i64 a, .int .i64 len] ∧ d = .agg [.lit (.int .i64 o), .lit (.int .i64 x), .lit (.int .i64 y), .lit (.int .i64 n), .lit (.int .i64 nn), .lit (.int .i64 a), .lit (.int .i64 len)] ∧ p = [] ∧ (Lit.int .i64 o).wf = true ∧ (Lit.int .i64 x).wf = true ∧ (Lit.int .i64 y).wf = true ∧ (Lit.int .i64 n).wf = true ∧ (Lit.int .i64 nn).wf = true ∧ (Lit.int .i64 a).wf = true ∧ (Lit.int .i64 len).wf = true := by
  have hc : Tryz.prog.cellsOf 33 = 7 := by kernel_rfl
  have hc0 : Tryz.prog.cellsOf 3 = 1 := by kernel_rfl
  obtain ⟨cs, rfl, hsz⟩ := okWide_struct Tryz.underlying33 hv
  obtain ⟨l⟩ := cs
  match l, hsz.trans hc with
  | [c0, c1, c2, c3, c4, c5, c6], _ =>
    obtain ⟨fuel, hf⟩ := h
    obtain ⟨xs, n, _, hx, _, hlen, hg⟩ := DataW.trod_struct Tryz.underlying33 hf
    match xs, hlen with
    | [y0, y1, y2, y3, y4, y5, y6], _ =>
      have g0 := hg 0 _ rfl
      have g1 := hg 1 _ rfl
      have g2 := hg 2 _ rfl
      have g3 := hg 3 _ rfl
      have g4 := hg 4 _ rfl
      have g5 := hg 5 _ rfl
      have g6 := hg 6 _ rfl
      simp [Value.cells, hc, hc0] at g0 g1 g2 g3 g4 g5 g6
      obtain ⟨o, e0, rfl, s_o⟩ := Go.DataW.trod_int Tryz.underlying3 g0
      obtain ⟨x, e1, rfl, s_x⟩ := Go.DataW.trod_int Tryz.underlying3 g1
      obtain ⟨y, e2, rfl, s_y⟩ := Go.DataW.trod_int Tryz.underlying3 g2
      obtain ⟨n, e3, rfl, s_n⟩ := Go.DataW.trod_int Tryz.underlying3 g3
      obtain ⟨nn, e4, rfl, s_nn⟩ := Go.DataW.trod_int Tryz.underlying3 g4
      obtain ⟨a, e5, rfl, s_a⟩ := Go.DataW.trod_int Tryz.underlying3 g5
      obtain ⟨len, e6, rfl, s_len⟩ := Go.DataW.trod_int Tryz.underlying3 g6
      simp at e0 e1 e2 e3 e4 e5 e6
      subst e0 e1 e2 e3 e4 e5 e6
      simp only [Prod.mk.injEq] at hx
      exact ⟨o, x, y, n, nn, a, len, rfl, by simpa using hx.1, by simpa using hx.2, s_o, s_x, s_y, s_n, s_nn, s_a, s_len⟩

set_option maxRecDepth 100000 in
theorem shut_instr {H : Type} {enc : TypeId × Value → H} {w : World} {base : Nat} {sp : Nat → Bool} {held : Bool} (o : Int) (x : Int) (y : Int) (n : Int) (nn : Int) (a : Int) (len : Int) (s_o : (Lit.int .i64 o).wf = true) (s_x : (Lit.int .i64 x).wf = true) (s_y : (Lit.int .i64 y).wf = true) (s_n : (Lit.int .i64 n).wf = true) (s_nn : (Lit.int .i64 nn).wf = true) (s_a : (Lit.int .i64 a).wf = true) (s_len : (Lit.int .i64 len).wf = true) : DataW.Trod enc Tryz.prog w base sp held 33 (.agg #[.int .i64 o, .int .i64 x, .int .i64 y, .int .i64 n, .int .i64 nn, .int .i64 a, .int .i64 len]) (.agg [.lit (.int .i64 o), .lit (.int .i64 x), .lit (.int .i64 y), .lit (.int .i64 n), .lit (.int .i64 nn), .lit (.int .i64 a), .lit (.int .i64 len)]) [] := by
  have hc : Tryz.prog.cellsOf 33 = 7 := by kernel_rfl
  have hc0 : Tryz.prog.cellsOf 3 = 1 := by kernel_rfl
  refine ⟨3, ?_⟩
  simp [DataW.trod, Value.cells, Tryz.underlying33, Tryz.underlying3, hc, hc0, s_o, s_x, s_y, s_n, s_nn, s_a, s_len, List.range, List.range.loop]
end Go.Proofs.YthfiaemdpfffcaaGreatDoor
