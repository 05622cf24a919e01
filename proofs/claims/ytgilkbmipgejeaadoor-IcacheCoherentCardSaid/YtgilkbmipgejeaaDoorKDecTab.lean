/- The table of rules as package decode makes it, and the functions that pick fields. -/
import Derived.Laws.EntriesVeiled
import Derived.KernelRfl
import Derived.Deep.Cut
import Derived.Test.YtgilkbmipgejeaaDoorPk0a
namespace Go.Proofs.YtgilkbmipgejeaaDoor
open Go.RowKit Num Dec
set_option linter.unusedVariables false
set_option linter.unusedSimpArgs false

/-- The number of the function that picks. -/
def pf : Pk → Nat
  | .pNone => 70
  | .pX => 76
  | .pN => 77
  | .pXY => 73
  | .pXYN => 75
  | .pXNN => 72
  | .pAddr => 71
  | .pXAddr => 74
  | .pPlanes => 79
  | .pNext => 78
/-- A rule's cells. -/
def rcs (r : Rl) : Array Value := #[.int .i64 (r.mask : Int), .int .i64 (r.code : Int), .int .i64 (r.op : Int), .int .i64 (r.level : Int), .func (.func (pf r.pk)) #[] #[]]
def ruleCells : Array Value := #[.int .i64 65535, .int .i64 224, .int .i64 1, .int .i64 1, .func (.func 70) #[] #[], .int .i64 65535, .int .i64 238, .int .i64 2, .int .i64 1, .func (.func 70) #[] #[], .int .i64 61440, .int .i64 4096, .int .i64 3, .int .i64 1, .func (.func 71) #[] #[], .int .i64 61440, .int .i64 8192, .int .i64 4, .int .i64 1, .func (.func 71) #[] #[], .int .i64 61440, .int .i64 12288, .int .i64 5, .int .i64 1, .func (.func 72) #[] #[], .int .i64 61440, .int .i64 16384, .int .i64 6, .int .i64 1, .func (.func 72) #[] #[], .int .i64 61455, .int .i64 20480, .int .i64 7, .int .i64 1, .func (.func 73) #[] #[], .int .i64 61440, .int .i64 24576, .int .i64 8, .int .i64 1, .func (.func 72) #[] #[], .int .i64 61440, .int .i64 28672, .int .i64 9, .int .i64 1, .func (.func 72) #[] #[], .int .i64 61455, .int .i64 32768, .int .i64 10, .int .i64 1, .func (.func 73) #[] #[], .int .i64 61455, .int .i64 32769, .int .i64 11, .int .i64 1, .func (.func 73) #[] #[], .int .i64 61455, .int .i64 32770, .int .i64 12, .int .i64 1, .func (.func 73) #[] #[], .int .i64 61455, .int .i64 32771, .int .i64 13, .int .i64 1, .func (.func 73) #[] #[], .int .i64 61455, .int .i64 32772, .int .i64 14, .int .i64 1, .func (.func 73) #[] #[], .int .i64 61455, .int .i64 32773, .int .i64 15, .int .i64 1, .func (.func 73) #[] #[], .int .i64 61455, .int .i64 32774, .int .i64 16, .int .i64 1, .func (.func 73) #[] #[], .int .i64 61455, .int .i64 32775, .int .i64 17, .int .i64 1, .func (.func 73) #[] #[], .int .i64 61455, .int .i64 32782, .int .i64 18, .int .i64 1, .func (.func 73) #[] #[], .int .i64 61455, .int .i64 36864, .int .i64 19, .int .i64 1, .func (.func 73) #[] #[], .int .i64 61440, .int .i64 40960, .int .i64 20, .int .i64 1, .func (.func 71) #[] #[], .int .i64 61440, .int .i64 45056, .int .i64 21, .int .i64 1, .func (.func 74) #[] #[], .int .i64 61440, .int .i64 49152, .int .i64 22, .int .i64 1, .func (.func 72) #[] #[], .int .i64 61455, .int .i64 53248, .int .i64 41, .int .i64 2, .func (.func 73) #[] #[], .int .i64 61440, .int .i64 53248, .int .i64 23, .int .i64 1, .func (.func 75) #[] #[], .int .i64 61695, .int .i64 57502, .int .i64 24, .int .i64 1, .func (.func 76) #[] #[], .int .i64 61695, .int .i64 57505, .int .i64 25, .int .i64 1, .func (.func 76) #[] #[], .int .i64 61695, .int .i64 61447, .int .i64 26, .int .i64 1, .func (.func 76) #[] #[], .int .i64 61695, .int .i64 61450, .int .i64 27, .int .i64 1, .func (.func 76) #[] #[], .int .i64 61695, .int .i64 61461, .int .i64 28, .int .i64 1, .func (.func 76) #[] #[], .int .i64 61695, .int .i64 61464, .int .i64 29, .int .i64 1, .func (.func 76) #[] #[], .int .i64 61695, .int .i64 61470, .int .i64 30, .int .i64 1, .func (.func 76) #[] #[], .int .i64 61695, .int .i64 61481, .int .i64 31, .int .i64 1, .func (.func 76) #[] #[], .int .i64 61695, .int .i64 61491, .int .i64 32, .int .i64 1, .func (.func 76) #[] #[], .int .i64 61695, .int .i64 61525, .int .i64 33, .int .i64 1, .func (.func 76) #[] #[], .int .i64 61695, .int .i64 61541, .int .i64 34, .int .i64 1, .func (.func 76) #[] #[], .int .i64 65520, .int .i64 192, .int .i64 35, .int .i64 2, .func (.func 77) #[] #[], .int .i64 65535, .int .i64 251, .int .i64 36, .int .i64 2, .func (.func 70) #[] #[], .int .i64 65535, .int .i64 252, .int .i64 37, .int .i64 2, .func (.func 70) #[] #[], .int .i64 65535, .int .i64 253, .int .i64 38, .int .i64 2, .func (.func 70) #[] #[], .int .i64 65535, .int .i64 254, .int .i64 39, .int .i64 2, .func (.func 70) #[] #[], .int .i64 65535, .int .i64 255, .int .i64 40, .int .i64 2, .func (.func 70) #[] #[], .int .i64 61695, .int .i64 61488, .int .i64 42, .int .i64 2, .func (.func 76) #[] #[], .int .i64 61695, .int .i64 61557, .int .i64 43, .int .i64 2, .func (.func 76) #[] #[], .int .i64 61695, .int .i64 61573, .int .i64 44, .int .i64 2, .func (.func 76) #[] #[], .int .i64 65520, .int .i64 208, .int .i64 45, .int .i64 3, .func (.func 77) #[] #[], .int .i64 61455, .int .i64 20482, .int .i64 46, .int .i64 3, .func (.func 73) #[] #[], .int .i64 61455, .int .i64 20483, .int .i64 47, .int .i64 3, .func (.func 73) #[] #[], .int .i64 65535, .int .i64 61440, .int .i64 48, .int .i64 3, .func (.func 78) #[] #[], .int .i64 61695, .int .i64 61441, .int .i64 49, .int .i64 3, .func (.func 79) #[] #[], .int .i64 65535, .int .i64 61442, .int .i64 50, .int .i64 3, .func (.func 70) #[] #[], .int .i64 61695, .int .i64 61498, .int .i64 51, .int .i64 3, .func (.func 76) #[] #[]]
def ruleV : Value := .agg ruleCells
theorem rule_at (k : Nat) (h : k < rls.length) (w : World) : (Instr.index 130 ruleV (.int .i64 (k : Int))).run Tryd.prog w = .ok (.agg (rcs rls[k])) w :=
  match k, h with
  | 0, _ => by kernel_rfl
  | 1, _ => by kernel_rfl
  | 2, _ => by kernel_rfl
  | 3, _ => by kernel_rfl
  | 4, _ => by kernel_rfl
  | 5, _ => by kernel_rfl
  | 6, _ => by kernel_rfl
  | 7, _ => by kernel_rfl
  | 8, _ => by kernel_rfl
  | 9, _ => by kernel_rfl
  | 10, _ => by kernel_rfl
  | 11, _ => by kernel_rfl
  | 12, _ => by kernel_rfl
  | 13, _ => by kernel_rfl
  | 14, _ => by kernel_rfl
  | 15, _ => by kernel_rfl
  | 16, _ => by kernel_rfl
  | 17, _ => by kernel_rfl
  | 18, _ => by kernel_rfl
  | 19, _ => by kernel_rfl
  | 20, _ => by kernel_rfl
  | 21, _ => by kernel_rfl
  | 22, _ => by kernel_rfl
  | 23, _ => by kernel_rfl
  | 24, _ => by kernel_rfl
  | 25, _ => by kernel_rfl
  | 26, _ => by kernel_rfl
  | 27, _ => by kernel_rfl
  | 28, _ => by kernel_rfl
  | 29, _ => by kernel_rfl
  | 30, _ => by kernel_rfl
  | 31, _ => by kernel_rfl
  | 32, _ => by kernel_rfl
  | 33, _ => by kernel_rfl
  | 34, _ => by kernel_rfl
  | 35, _ => by kernel_rfl
  | 36, _ => by kernel_rfl
  | 37, _ => by kernel_rfl
  | 38, _ => by kernel_rfl
  | 39, _ => by kernel_rfl
  | 40, _ => by kernel_rfl
  | 41, _ => by kernel_rfl
  | 42, _ => by kernel_rfl
  | 43, _ => by kernel_rfl
  | 44, _ => by kernel_rfl
  | 45, _ => by kernel_rfl
  | 46, _ => by kernel_rfl
  | 47, _ => by kernel_rfl
  | 48, _ => by kernel_rfl
  | 49, _ => by kernel_rfl
  | 50, _ => by kernel_rfl
  | n + 51, h => absurd h (by have := rls_len; omega)

def icells (i : Ins) : Array Value := #[.int .i64 i.op, .int .i64 i.x, .int .i64 i.y, .int .i64 i.n, .int .i64 i.nn, .int .i64 i.addr, .int .i64 i.len]
set_option maxHeartbeats 1000000 in
theorem pick_any (p : Pk) (hd x y n nn nnn next : Int) (w : World) :
    Calls Tryd.prog (pf p) #[.agg #[.int .i64 hd, .int .i64 x, .int .i64 y, .int .i64 n, .int .i64 nn, .int .i64 nnn], .int .i64 next] w fun e w' =>
      e = .returned (.agg (icells ⟨0, pX p x, pY p y, pN p x n, pNN p nn, pA p nnn next, 0⟩)) ∧ Below w.heap.size w w' := by
  cases p
  · go_enter Tryd.func70, Tryd.ntmps70
    go_wp2
    go_returns
    exact ⟨rfl, by go_grown⟩
  · go_enter Tryd.func76, Tryd.ntmps76
    go_wp2
    go_returns
    exact ⟨rfl, by go_grown⟩
  · go_enter Tryd.func77, Tryd.ntmps77
    go_wp2
    go_returns
    exact ⟨rfl, by go_grown⟩
  · go_enter Tryd.func73, Tryd.ntmps73
    go_wp2
    go_returns
    exact ⟨rfl, by go_grown⟩
  · go_enter Tryd.func75, Tryd.ntmps75
    go_wp2
    go_returns
    exact ⟨rfl, by go_grown⟩
  · go_enter Tryd.func72, Tryd.ntmps72
    go_wp2
    go_returns
    exact ⟨rfl, by go_grown⟩
  · go_enter Tryd.func71, Tryd.ntmps71
    go_wp2
    go_returns
    exact ⟨rfl, by go_grown⟩
  · go_enter Tryd.func74, Tryd.ntmps74
    go_wp2
    go_returns
    exact ⟨rfl, by go_grown⟩
  · go_enter Tryd.func79, Tryd.ntmps79
    go_wp2
    go_returns
    exact ⟨rfl, by go_grown⟩
  · go_enter Tryd.func78, Tryd.ntmps78
    go_wp2
    go_returns
    exact ⟨rfl, by go_grown⟩

def ruleZ : Array Value := #[.int .i64 0, .int .i64 0, .int .i64 0, .int .i64 0, .nilFunc, .int .i64 0, .int .i64 0, .int .i64 0, .int .i64 0, .nilFunc, .int .i64 0, .int .i64 0, .int .i64 0, .int .i64 0, .nilFunc, .int .i64 0, .int .i64 0, .int .i64 0, .int .i64 0, .nilFunc, .int .i64 0, .int .i64 0, .int .i64 0, .int .i64 0, .nilFunc, .int .i64 0, .int .i64 0, .int .i64 0, .int .i64 0, .nilFunc, .int .i64 0, .int .i64 0, .int .i64 0, .int .i64 0, .nilFunc, .int .i64 0, .int .i64 0, .int .i64 0, .int .i64 0, .nilFunc, .int .i64 0, .int .i64 0, .int .i64 0, .int .i64 0, .nilFunc, .int .i64 0, .int .i64 0, .int .i64 0, .int .i64 0, .nilFunc, .int .i64 0, .int .i64 0, .int .i64 0, .int .i64 0, .nilFunc, .int .i64 0, .int .i64 0, .int .i64 0, .int .i64 0, .nilFunc, .int .i64 0, .int .i64 0, .int .i64 0, .int .i64 0, .nilFunc, .int .i64 0, .int .i64 0, .int .i64 0, .int .i64 0, .nilFunc, .int .i64 0, .int .i64 0, .int .i64 0, .int .i64 0, .nilFunc, .int .i64 0, .int .i64 0, .int .i64 0, .int .i64 0, .nilFunc, .int .i64 0, .int .i64 0, .int .i64 0, .int .i64 0, .nilFunc, .int .i64 0, .int .i64 0, .int .i64 0, .int .i64 0, .nilFunc, .int .i64 0, .int .i64 0, .int .i64 0, .int .i64 0, .nilFunc, .int .i64 0, .int .i64 0, .int .i64 0, .int .i64 0, .nilFunc, .int .i64 0, .int .i64 0, .int .i64 0, .int .i64 0, .nilFunc, .int .i64 0, .int .i64 0, .int .i64 0, .int .i64 0, .nilFunc, .int .i64 0, .int .i64 0, .int .i64 0, .int .i64 0, .nilFunc, .int .i64 0, .int .i64 0, .int .i64 0, .int .i64 0, .nilFunc, .int .i64 0, .int .i64 0, .int .i64 0, .int .i64 0, .nilFunc, .int .i64 0, .int .i64 0, .int .i64 0, .int .i64 0, .nilFunc, .int .i64 0, .int .i64 0, .int .i64 0, .int .i64 0, .nilFunc, .int .i64 0, .int .i64 0, .int .i64 0, .int .i64 0, .nilFunc, .int .i64 0, .int .i64 0, .int .i64 0, .int .i64 0, .nilFunc, .int .i64 0, .int .i64 0, .int .i64 0, .int .i64 0, .nilFunc, .int .i64 0, .int .i64 0, .int .i64 0, .int .i64 0, .nilFunc, .int .i64 0, .int .i64 0, .int .i64 0, .int .i64 0, .nilFunc, .int .i64 0, .int .i64 0, .int .i64 0, .int .i64 0, .nilFunc, .int .i64 0, .int .i64 0, .int .i64 0, .int .i64 0, .nilFunc, .int .i64 0, .int .i64 0, .int .i64 0, .int .i64 0, .nilFunc, .int .i64 0, .int .i64 0, .int .i64 0, .int .i64 0, .nilFunc, .int .i64 0, .int .i64 0, .int .i64 0, .int .i64 0, .nilFunc, .int .i64 0, .int .i64 0, .int .i64 0, .int .i64 0, .nilFunc, .int .i64 0, .int .i64 0, .int .i64 0, .int .i64 0, .nilFunc, .int .i64 0, .int .i64 0, .int .i64 0, .int .i64 0, .nilFunc, .int .i64 0, .int .i64 0, .int .i64 0, .int .i64 0, .nilFunc, .int .i64 0, .int .i64 0, .int .i64 0, .int .i64 0, .nilFunc, .int .i64 0, .int .i64 0, .int .i64 0, .int .i64 0, .nilFunc, .int .i64 0, .int .i64 0, .int .i64 0, .int .i64 0, .nilFunc, .int .i64 0, .int .i64 0, .int .i64 0, .int .i64 0, .nilFunc, .int .i64 0, .int .i64 0, .int .i64 0, .int .i64 0, .nilFunc, .int .i64 0, .int .i64 0, .int .i64 0, .int .i64 0, .nilFunc, .int .i64 0, .int .i64 0, .int .i64 0, .int .i64 0, .nilFunc, .int .i64 0, .int .i64 0, .int .i64 0, .int .i64 0, .nilFunc, .int .i64 0, .int .i64 0, .int .i64 0, .int .i64 0, .nilFunc, .int .i64 0, .int .i64 0, .int .i64 0, .int .i64 0, .nilFunc]
theorem ruleZero : ZeroT Tryd.prog 130 ruleZ := by unfold ZeroT; kernel_rfl
theorem aggRules : AggT Tryd.prog 130 255 := ⟨⟨_, Tryd.underlying130, rfl⟩, by kernel_rfl⟩
/-- A run of literals of structs, carried out at once. -/
def runBuilds (P : Program) : List Oper → Act → Act
  | [], a => a
  | o :: os, a => match o.op with
    | .build ty parts => (match P.built ty (parts.map fun (i, x) => (i, a.eval x)).toList with | some cs => runBuilds P os (a.put o.dst (.agg cs)) | none => a)
    | _ => a
def okBuilds (P : Program) : List Oper → Act → Bool
  | [], _ => true
  | o :: os, a => o.guard.isNone && match o.op with
    | .build ty parts => (match P.built ty (parts.map fun (i, x) => (i, a.eval x)).toList with | some cs => okBuilds P os (a.put o.dst (.agg cs)) | none => false)
    | _ => false
theorem wpList_split {P : Program} {ops : Array Oper} {Q : Exit → Act → World → Prop} {w : World} {a : Act} (n : Nat) {l : List Oper} (h : wpList P ops Q (l.take n ++ l.drop n) a w) : wpList P ops Q l a w := by
  rwa [List.take_append_drop] at h
theorem list_builds {P : Program} {ops : Array Oper} {Q : Exit → Act → World → Prop} {w : World} (rest : List Oper) : ∀ (os : List Oper) (a : Act), okBuilds P os a = true → wpList P ops Q rest (runBuilds P os a) w → wpList P ops Q (os ++ rest) a w
  | [], _, _, h => h
  | o :: os, a, hb, h => by
    unfold okBuilds at hb
    rw [Bool.and_eq_true] at hb
    obtain ⟨hg, hb⟩ := hb
    unfold runBuilds at h
    split at hb
    · rename_i ty parts ho
      rw [ho] at h
      simp only at h
      split at hb
      · rename_i cs hc
        rw [hc] at h
        exact list_build_all (by simpa using hg) ho hc (list_builds rest os _ hb h)
      · cases hb
    · cases hb

set_option maxRecDepth 100000 in
set_option maxHeartbeats 4000000 in
theorem rules_any (w : World) : Calls Tryd.prog 68 #[] w fun e w' => e = .returned ruleV ∧ Below w.heap.size w w' := by
  go_enter Tryd.func68, Tryd.ntmps68
  go_upto_region 0 with fail
  refine wp_region_lit ?_
  refine wpList_plain rfl fun K hK => wp_alloc ruleZero rfl (hK _ _ ?_)
  clear hK K
  go_upto_region 1 with fail
  refine wp_region_lit ?_
  refine wpList_split 52 ?_
  refine list_builds _ _ _ (by kernel_rfl) ?_
  refine list_store_all (ds := ruleCells) aggRules (Blk.new w _ ruleZ) rfl rfl (by unfold Ones; kernel_rfl) rfl (.tmp 0) (.tmp 52) rfl (by kernel_rfl) (by kernel_rfl) ?_
  have H := (Blk.new w 130 ruleZ).store ruleCells
  have B := belowRow' ((Below.refl w.heap.size w).alloc (Nat.le_refl _) (.cells ruleZ 130)) (Nat.le_refl _) ruleCells
  iterate 4 go_step
  exact bodyPost_ret (results_cell_row rfl _ _ w.heap.size _ ruleCells _ _ (by kernel_rfl) H Tryd.underlying130 rfl aggRules.i) (by kernel_rfl) ⟨rfl, B⟩
end Go.Proofs.YtgilkbmipgejeaaDoor
