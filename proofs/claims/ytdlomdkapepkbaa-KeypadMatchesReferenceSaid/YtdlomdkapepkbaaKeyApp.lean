/- append of a slice of numbers, nil or not, onto a slice that the call owns; Numbers of slices of one list. -/
import Derived.Test.YtdlomdkapepkbaaKeyRef
namespace Go.Proofs.Ytdlomdkapepkbaa
open Go.RowKit Num
set_option linter.unusedVariables false
set_option linter.unusedSimpArgs false

theorem run_append_int (w : World) (ty : TypeId) (base : Nat) (v : Value) (n : Nat) (L0 : List Int) (hown : w.ownsRow base 3 1 v n (L0.map (Value.int .i64))) (A : Option Addr) (m c : Nat) (L : List Int) (hR : Row (Value.int .i64) w A L) (hL : L.length = m)
    (h63 : n + m ≤ 1000000) (hbase : base ≤ w.heap.size) :
    ∃ v' w', (Builtin.append_ #[32, 32] ty #[v, .slice A m c]).run Try.prog w = .ok v' w' ∧ w'.ownsRow base 3 1 v' (n + m) ((L0 ++ L).map (Value.int .i64)) ∧ w.grownBy w' v.ownBlock := by
  obtain ⟨i0, hi, hz0, hz1, hz2⟩ := info_parts infoIntR
  rcases A with _ | ad
  · have hm : m = 0 := by
      rcases Nat.eq_zero_or_pos m with h | h
      · exact h
      · obtain ⟨b, o, e, _⟩ := hR (by rintro rfl; simp at hL; omega)
        cases e
    subst hm
    obtain rfl : L = [] := List.eq_nil_of_length_eq_zero hL
    refine ⟨v, w, ?_, by simpa using hown, World.grownBy.refl w _⟩
    rcases hown.2 with ⟨rfl, rfl⟩ | ⟨g, cap, cur, rfl, _, _, hnc, _⟩
    · simp [Builtin.append_, run_underlying Try.underlying32, sizeOf, typeInfo, hi, Builtin.lenOf, Builtin.firstCells]
    · simp [Builtin.append_, run_underlying Try.underlying32, sizeOf, typeInfo, hi, Builtin.lenOf, Builtin.firstCells, hnc, storeCells]
  · have hc : ∀ j u, (L.map (Value.int .i64))[j]? = some u → w.cell? (ad.add j) = some u := by
      by_cases hne : L = []
      · subst hne; intro j u hu; simp at hu
      · obtain ⟨b, o, e, _, hc⟩ := hR hne
        injection e with e
        subst e
        intro j u hu
        rw [List.getElem?_map] at hu
        cases hq : L[j]? with
        | none => rw [hq] at hu; cases hu
        | some x =>
          rw [hq] at hu
          obtain ⟨hj, hx⟩ := List.getElem?_eq_some_iff.1 hq
          injection hu with hu
          rw [Addr.add_mid, hc j hj, ← hu, hx]
    have h1 : ∀ u ∈ L.map (Value.int .i64), u.oneCell' = true := by
      intro u hu
      obtain ⟨x, _, rfl⟩ := List.mem_map.1 hu
      rfl
    obtain ⟨v', w', hrun, h2, h3, _, _⟩ := run_append_own_at (P := Try.prog) w base 32 ty 3 i0 (.int .i64 0) 1 8 Try.underlying32 hi hz0 hz1 hz2 rfl (by omega) v n _ hown ad m c (L.map (Value.int .i64)) (by rw [List.length_map]; omega) hc h1 (by unfold maxLen; omega) (by omega) hbase
    exact ⟨v', w', hrun, by rw [List.map_append]; exact h2, h3⟩

theorem list_append_int {w : World} {ops : Array Oper} {rest : List Oper} {o : Oper} {a : Act} {Q : Exit → Act → World → Prop} (hw : Region.wanted o (yielded ops a.tmps) = true) (s x : Operand)
    (ho : o.op = .call { callee := .builtin .append, args := #[s, x], argTypes := #[32, 32] }) (base : Nat) (v : Value) (n : Nat) (L0 : List Int) (hs : a.eval s = v) (hown : w.ownsRow base 3 1 v n (L0.map (Value.int .i64)))
    (A : Option Addr) (m c : Nat) (L : List Int) (hx : a.eval x = .slice A m c) (hR : Row (Value.int .i64) w A L) (hL : L.length = m) (h63 : n + m ≤ 1000000) (hbase : base ≤ w.heap.size)
    (h : ∀ v' w', w'.ownsRow base 3 1 v' (n + m) ((L0 ++ L).map (Value.int .i64)) → w.grownBy w' v.ownBlock → wpList Try.prog ops Q rest (a.put o.dst v') w') : wpList Try.prog ops Q (o :: rest) a w := by
  refine wpList_step fun K hK => ?_
  rw [if_pos hw]
  obtain ⟨v', w', hrun, h2, h3⟩ := run_append_int w o.type base v n L0 hown A m c L hR hL h63 hbase
  unfold Oper.wp execOp
  simp only [ho, resolve, invoke, builtin, Sem.run_bind, Sem.run_pure, Result.andThen_ok, List.map_toArray, List.map_cons, List.map_nil, hs, hx, hrun]
  exact hK _ _ (h v' w' h2 h3)
/-- A new slice without elements. -/
theorem own_empty (w : World) : (w.alloc (.cells #[] 3)).ownsRow w.heap.size 3 1 (.slice (some ⟨w.heap.size, 0, none⟩) 0 0) 0 (([] : List Int).map (Value.int .i64)) :=
  ⟨rfl, .inr ⟨w.heap.size, 0, #[], rfl, Nat.le_refl _, heap_alloc_new _ _, Nat.le_refl _, Nat.zero_le _, rfl, rfl⟩⟩
/-- What lies below the row's base, and the row's own block, stay behind an append. -/
theorem below_append {w w' : World} {base n size : Nat} {e : TypeId} {v : Value} {xs : List Value} (hown : w.ownsRow base e size v n xs) (hbase : base ≤ w.heap.size) (hg : w.grownBy w' v.ownBlock) : Below base w w' :=
  (Below.refl base w).grown hg hbase fun k hk => by
    rcases hown.2 with ⟨rfl, _⟩ | ⟨g, cap, cur, rfl, hb, _, _⟩
    · simp [Value.ownBlock] at hk
    · obtain rfl : g = k := by simpa [Value.ownBlock] using hk
      exact hb
theorem numbersK2 (A B : Option Addr) (c d n m : Nat) (L : List Int) (w : World) (hn : n = L.length) (hm : m = L.length) (n1 : L.length ≤ 65536) (hA : Row (Value.int .i64) w A L) (hB : Row (Value.int .i64) w B L) :
    Calls Try.prog 12 #[.slice A n c, .slice B m d] w fun e w' => e = .returned (.bool true) ∧ Below w.heap.size w w' := by
  subst hn
  subst hm
  exact numbersK A B c d _ L w rfl n1 hA hB
/-- A row of numbers, behind a keypad's store. -/
theorem row_other {w : World} {A : Option Addr} {L : List Int} {p : Nat} {K : Nat → Bool} (h : Row (Value.int .i64) w A L) (hp : KB p K w) (cs : Array Value) : Row (Value.int .i64) (w.setRow p cs) A L := fun hne => by
  obtain ⟨b, o, e, lt, hc⟩ := h hne
  have hb : b ≠ p := by
    rintro rfl
    have h0 := hc 0 (List.length_pos_iff.2 hne)
    rw [Nat.add_zero] at h0
    have h1 := Blk.cell hp o
    rw [h0] at h1
    by_cases ho : o < 16
    · rw [kc_get _ _ ho] at h1
      injection h1 with h1
      cases h1
    · rw [Array.getElem?_eq_none (by rw [kc_size]; omega)] at h1
      cases h1
  refine ⟨b, o, e, by simpa [World.setRow] using lt, fun j hj => ?_⟩
  rw [← hc j hj]
  exact World.cell?_of_block (a := ⟨b, o + j, none⟩) (setRow_other w p b cs hb)
/-- The slice of events from an index on: where it begins. -/
def cutA (A : Option Addr) (c k : Nat) : Option Addr := if c = k then A else A.map (·.add (k * 2))
theorem exec_cut {op : Oper} {ρ : Operand → Value} {w : World} (x y : Operand) (A : Option Addr) (n c k : Nat) (ho : op.op = .slice 22 x (some y) none none) (hx : ρ x = .slice A n c) (hy : ρ y = .int .i64 (k : Int)) (hk : k ≤ n) :
    (execOp ρ op).run Try.prog w = .ok (.value (.slice (cutA A c k) (n - k) (c - k))) w := by
  have hz : (sizeOf (Try.prog.elem 22)).run Try.prog w = .ok 2 w := by kernel_rfl
  have hs : (Instr.sliceAt 22 (.slice A n c) (some (.int .i64 (k : Int))) none none).run Try.prog w = .ok (.slice (cutA A c k) (n - k) (c - k)) w := by
    rw [run_sliceAt_slice w 22 _ _ _ _ Try.underlying22, run_slice_l w 22 A n c Try.underlying22 .i64 (k : Int) (by omega) (by omega), hz, Result.andThen_ok]
    simp [sliced, cutA]
  unfold execOp
  simp [ho, hx, hy, hs]
theorem quiet_cut {ops : Array Oper} {C : World → Prop} {Q : Act → Prop} {op : Oper} {rest : List Oper} {a : Act} (A : Option Addr) (n c k : Nat) (hw : Region.wanted op (yielded ops a.tmps) = true) (x y : Operand) (ho : op.op = .slice 22 x (some y) none none) (hx : a.eval x = .slice A n c) (hy : a.eval y = .int .i64 (k : Int)) (hk : k ≤ n)
    (h : wpQuiet Try.prog ops C Q rest (a.put op.dst (.slice (cutA A c k) (n - k) (c - k)))) : wpQuiet Try.prog ops C Q (op :: rest) a :=
  quiet_run hw _ (fun w _ => exec_cut x y A n c k ho hx hy hk) h
theorem cutA_at (A : Option Addr) (n c k : Nat) (hc : n ≤ c) : ∀ b o, A = some ⟨b, o, none⟩ → k < n → cutA A c k = some ⟨b, o + k * 2, none⟩ := by
  rintro b o rfl hk
  unfold cutA
  rw [if_neg (by omega)]
  rw [Option.map_some, Addr.add_mid]
end Go.Proofs.Ytdlomdkapepkbaa
