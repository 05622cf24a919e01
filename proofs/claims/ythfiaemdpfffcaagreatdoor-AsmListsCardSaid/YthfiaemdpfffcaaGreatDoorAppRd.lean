/- append of a slice of bytes, nil or not, onto a slice that the call owns. -/
import Derived.Test.YthfiaemdpfffcaaGreatDoorByt
import Derived.Maps.AppendAt
import Derived.Laws.OwnMore
namespace Go.Proofs.YthfiaemdpfffcaaGreatDoor
open Go.RowKit Num
set_option linter.unusedVariables false

theorem run_append_rd (w : World) (ty : TypeId) (base : Nat) (v : Value) (n : Nat) (L0 : List Int) (hown : w.ownsRow base 5 1 v n (L0.map (Value.int .u8))) (A : Option Addr) (m c : Nat) (L : List Int) (hR : Rd w A L) (hL : L.length = m)
    (h63 : n + m ≤ 1000000) (hbase : base ≤ w.heap.size) :
    ∃ v' w', (Builtin.append_ #[22, 22] ty #[v, .slice A m c]).run Tryz.prog w = .ok v' w' ∧ w'.ownsRow base 5 1 v' (n + m) ((L0 ++ L).map (Value.int .u8)) ∧ w.grownBy w' v.ownBlock := by
  obtain ⟨i0, hi, hz0, hz1, hz2⟩ := info_parts infoByte
  rcases A with _ | ad
  · have hm : m = 0 := by
      rcases Nat.eq_zero_or_pos m with h | h
      · exact h
      · obtain ⟨ad, e, _⟩ := hR (by rintro rfl; simp at hL; omega)
        cases e
    subst hm
    obtain rfl : L = [] := List.eq_nil_of_length_eq_zero hL
    refine ⟨v, w, ?_, by simpa using hown, World.grownBy.refl w _⟩
    rcases hown.2 with ⟨rfl, rfl⟩ | ⟨g, cap, cur, rfl, _, _, hnc, _⟩
    · simp [Builtin.append_, run_underlying Tryz.underlying22, sizeOf, typeInfo, hi, Builtin.lenOf, Builtin.firstCells]
    · simp [Builtin.append_, run_underlying Tryz.underlying22, sizeOf, typeInfo, hi, Builtin.lenOf, Builtin.firstCells, hnc, storeCells]
  · have hc : ∀ j u, (L.map (Value.int .u8))[j]? = some u → w.cell? (ad.add j) = some u := by
      by_cases hne : L = []
      · subst hne; intro j u hu; simp at hu
      · obtain ⟨ad', e, _, hc⟩ := hR hne
        injection e with e
        subst e
        exact rd_cells hc
    obtain ⟨v', w', hrun, h2, h3, _, _⟩ := run_append_own_at (P := Tryz.prog) w base 22 ty 5 i0 (.int .u8 0) 1 1 Tryz.underlying22 hi hz0 hz1 hz2 rfl (by omega) v n _ hown ad m c (L.map (Value.int .u8)) (by rw [List.length_map]; omega) hc (int_cells L) (by unfold maxLen; omega) (by omega) hbase
    exact ⟨v', w', hrun, by rw [List.map_append]; exact h2, h3⟩

theorem wpList_append_rd {w : World} {ops : Array Oper} {rest : List Oper} {o : Oper} {a : Act} {Q : Exit → Act → World → Prop} (hgd : o.guard = none) (s x : Operand)
    (ho : o.op = .call { callee := .builtin .append, args := #[s, x], argTypes := #[22, 22] }) (base : Nat) (v : Value) (n : Nat) (L0 : List Int) (hs : a.eval s = v) (hown : w.ownsRow base 5 1 v n (L0.map (Value.int .u8)))
    (A : Option Addr) (m c : Nat) (L : List Int) (hx : a.eval x = .slice A m c) (hR : Rd w A L) (hL : L.length = m) (h63 : n + m ≤ 1000000) (hbase : base ≤ w.heap.size)
    (h : ∀ v' w', w'.ownsRow base 5 1 v' (n + m) ((L0 ++ L).map (Value.int .u8)) → w.grownBy w' v.ownBlock → wpList Tryz.prog ops Q rest (a.put o.dst v') w') : wpList Tryz.prog ops Q (o :: rest) a w := by
  refine wpList_plain hgd fun K hK => ?_
  obtain ⟨v', w', hrun, h2, h3⟩ := run_append_rd w o.type base v n L0 hown A m c L hR hL h63 hbase
  unfold Oper.wp execOp
  simp only [ho, resolve, invoke, builtin, Sem.run_bind, Sem.run_pure, Result.andThen_ok, List.map_toArray, List.map_cons, List.map_nil, hs, hx, hrun]
  exact hK _ _ (h v' w' h2 h3)
end Go.Proofs.YthfiaemdpfffcaaGreatDoor
