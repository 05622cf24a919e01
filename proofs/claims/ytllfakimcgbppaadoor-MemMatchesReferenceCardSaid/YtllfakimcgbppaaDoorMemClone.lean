/- The contract of Clone. -/
import Derived.Test.YtllfakimcgbppaaDoorMemBytes
namespace Go.Proofs.YtllfakimcgbppaaDoor
open Go.RowKit Num
set_option linter.unusedVariables false

theorem zip_set : ∀ (L : List Value) (k : Nat) (cs : Array Value), k + L.length ≤ cs.size →
    (L.zipIdx k).foldl (fun cs (x : Value × Nat) => cs.setIfInBounds x.2 x.1) cs = (cs.toList.take k ++ L ++ cs.toList.drop (k + L.length)).toArray
  | [], k, cs, _ => by simp
  | x :: L, k, cs, h => by
    simp only [List.length_cons] at h
    rw [List.zipIdx_cons, List.foldl_cons, zip_set L (k + 1) _ (by simp; omega)]
    have e := list_seg_step cs.toList k x L (by simp; omega)
    congr 1
    simpa using e
theorem infoArr : (Tryd.prog.info? 51).map (·.size) = some 65536 := by kernel_rfl
theorem infoLog : (Tryd.prog.info? 53).map (·.size) = some 1 := by kernel_rfl
theorem size_of {P : Program} {t n : Nat} (h : (P.info? t).map (·.size) = some n) (w : World) : (sizeOf t).run P w = .ok n w := by
  cases hq : P.info? t with
  | none => simp [hq] at h
  | some i => simp [hq] at h; simp [sizeOf, typeInfo, hq, h]
theorem build_mem (M : List Int) (hM : M.length = 65536) (w : World) : (Instr.build 55 #[(0, .agg (arr M))]).run Tryd.prog w = .ok (.agg (cells M (.slice none 0 0))) w := by
  have hf : Instr.fill (fun i => (#[(0, 65536), (65536, 1)] : Array (Nat × Nat))[i]?) (cells zeros (.slice none 0 0)) [(0, .agg (arr M))] = some (cells M (.slice none 0 0)) := by
    have e0 : (#[(0, 65536), (65536, 1)] : Array (Nat × Nat))[0]? = some (0, 65536) := rfl
    have e1 : (arr M).size = 65536 := by rw [arr_size, hM]
    have e2 : (cells zeros (.slice none 0 0)).size = 65537 := by unfold cells; simp [zeros_len]
    have e3 : (arr M).zipIdx.foldl (fun cs (x : Value × Nat) => cs.setIfInBounds (0 + x.2) x.1) (cells zeros (.slice none 0 0)) = cells M (.slice none 0 0) := by
      have h := zip_set (M.map (Value.int .u8)) 0 (cells zeros (.slice none 0 0)) (by rw [e2]; simp [hM])
      simp only [Nat.zero_add]
      rw [← Array.foldl_toList, Array.toList_zipIdx]
      refine h.trans ?_
      unfold cells
      simp [hM, zeros_len]
    unfold Instr.fill
    simp only [e0, Value.cells, e1, e2]
    rw [if_neg (by simp)]
    show Instr.fill _ ((arr M).zipIdx.foldl (fun cs (x : Value × Nat) => cs.setIfInBounds (0 + x.2) x.1) (cells zeros (.slice none 0 0))) [] = _
    rw [e3]
    rfl
  refine run_build w 55 _ _ ?_
  obtain ⟨it, hit, hz⟩ := Option.map_eq_some_iff.1 infoMem
  simp only [Prod.mk.injEq] at hz
  have hp : (match Tryd.prog.underlying 55 with | some (.struct fields) => fields.toList.mapM (fun f => (Tryd.prog.info? f.type).map fun i => (f.offset, i.size)) | _ => none) = some [(0, 65536), (65536, 1)] := by kernel_rfl
  rw [Tryd.underlying55] at hp
  unfold Program.built
  rw [hit, Tryd.underlying55]
  simp only at hp ⊢
  rw [hz.1, hp]
  exact hf

theorem wpList_build_run {P : Program} {ops : Array Oper} {rest : List Oper} {o : Oper} {a : Act} {w : World} {Q : Exit → Act → World → Prop} (hgd : o.guard = none) (ty : TypeId) (parts : Array (Nat × Operand)) (ho : o.op = .build ty parts)
    (ps : Array (Nat × Value)) (hp : (parts.map fun x => (x.1, a.eval x.2)) = ps) (r : Value) (hrun : (Instr.build ty ps).run P w = .ok r w) (h : wpList P ops Q rest (a.put o.dst r) w) : wpList P ops Q (o :: rest) a w := by
  subst hp
  refine wpList_plain hgd fun K hK => ?_
  unfold Oper.wp execOp
  simp only [ho, Sem.run_bind, hrun, Result.andThen_ok, Sem.run_pure]
  exact hK _ _ h
/-- A memory of its own. -/
def Cloned (M : List Int) (w : World) (e : Ending) (w' : World) : Prop :=
  ∃ q, e = .returned (.pointer (some ⟨q, 0, none⟩)) ∧ w.heap.size ≤ q ∧ MemAt q M (.slice none 0 0) w' ∧ Below w.heap.size w w'

set_option maxHeartbeats 400000 in
theorem clone_nil (w : World) : Calls Tryd.prog 20 #[.pointer none] w fun e w' => e = .returned (.pointer none) ∧ w = w' := by
  go_enter Tryd.func20, Tryd.ntmps20
  go_wp2
  go_ret
  exact ⟨rfl, rfl⟩
set_option maxRecDepth 100000 in
set_option maxHeartbeats 1000000 in
theorem clone_any (p : Nat) (M : List Int) (v : Value) (w : World) (hM : M.length = 65536) (hp : MemAt p M v w) :
    Calls Tryd.prog 20 #[.pointer (some ⟨p, 0, none⟩)] w (Cloned M w) := by
  have hb := build_mem M hM
  have H := Lib.hid (And.intro hM hp)
  clear hM hp
  go_enter Tryd.func20, Tryd.ntmps20
  go_upto_region 3 with fail
  refine wp_region_lit ?_
  iterate 9 go_step
  refine wpList_load_part rfl 51 (.tmp 7) rfl ⟨p, 0, none⟩ (by simp [Act.eval]) M _ (fun j h => by rw [add_lit, Nat.zero_add]; exact H.out.2.cell H.out.1 j (by rw [← H.out.1]; exact h)) Tryd.underlying51 rfl (by rw [infoArr, H.out.1]) ?_
  refine wpList_build_run rfl 55 #[(0, .tmp 8)] rfl #[(0, .agg (arr M))] (by simp [Act.eval, Act.put]) _ (hb w) ?_
  clear hb
  go_wp2
  go_ret
  exact ⟨w.heap.size, rfl, Nat.le_refl _, heap_alloc_new _ _, (Below.refl _ _).alloc (Nat.le_refl _) _⟩
end Go.Proofs.YtllfakimcgbppaaDoor
