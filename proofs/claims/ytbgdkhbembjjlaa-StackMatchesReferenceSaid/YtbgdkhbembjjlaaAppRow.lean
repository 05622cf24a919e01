/- append of a slice of one-cell elements, nil or not, onto a slice that the call owns. Nothing of the program. -/
import Derived.Test.YtbgdkhbembjjlaaRow
import Derived.Test.YtbgdkhbembjjlaaArr
import Derived.Maps.AppendAt
import Derived.Laws.OwnMore
namespace Go.Proofs.Ytbgdkhbembjjlaa
open Go.RowKit
set_option linter.unusedVariables false

/-- S is a slice of E, an element of one cell, whose zero is z. -/
structure Elem (P : Program) (S E : TypeId) (z : Value) (bytes : Nat) : Prop where
  u : P.underlying S = some (.slice E)
  i : (P.info? E).map (fun i => (i.zero, i.size, i.bytes)) = some (some z, 1, bytes)
  z1 : z.cells.size = 1
section
variable {P : Program} {S E : TypeId} {z : Value} {bytes : Nat} {α : Type} {enc : α → Value}
theorem run_append_row (K : Elem P S E z bytes) (h1 : ∀ a, (enc a).oneCell' = true) (w : World) (ty : TypeId) (base : Nat) (v : Value) (n : Nat) (L0 : List α) (hown : w.ownsRow base E 1 v n (L0.map enc)) (A : Option Addr) (m c : Nat) (L : List α) (hR : Row enc w A L) (hL : L.length = m)
    (h63 : n + m ≤ 1000000) (hby : bytes ≤ 64) (hbase : base ≤ w.heap.size) :
    ∃ v' w', (Builtin.append_ #[S, S] ty #[v, .slice A m c]).run P w = .ok v' w' ∧ w'.ownsRow base E 1 v' (n + m) ((L0 ++ L).map enc) ∧ w.grownBy w' v.ownBlock := by
  obtain ⟨i0, hi, hz0, hz1, hz2⟩ := info_parts K.i
  rcases A with _ | ad
  · have hm : m = 0 := by
      rcases Nat.eq_zero_or_pos m with h | h
      · exact h
      · obtain ⟨b, o, e, _⟩ := hR (by rintro rfl; simp at hL; omega)
        cases e
    subst hm
    obtain rfl : L = [] := List.eq_nil_of_length_eq_zero hL
    refine ⟨v, w, ?_, by simpa using hown, World.grownBy.refl w _⟩
    rcases hown.2 with ⟨rfl, rfl⟩ | ⟨g, cap, cur, rfl, _, _, hnc, _⟩
    · simp [Builtin.append_, run_underlying K.u, sizeOf, typeInfo, hi, Builtin.lenOf, Builtin.firstCells]
    · simp [Builtin.append_, run_underlying K.u, sizeOf, typeInfo, hi, Builtin.lenOf, Builtin.firstCells, hnc, storeCells]
  · have hc : ∀ j u, (L.map enc)[j]? = some u → w.cell? (ad.add j) = some u := by
      by_cases hne : L = []
      · subst hne; intro j u hu; simp at hu
      · obtain ⟨b, o, e, _, hc⟩ := hR hne
        injection e with e
        subst e
        intro j u hu
        rw [List.getElem?_map] at hu
        obtain ⟨a, ha, rfl⟩ := Option.map_eq_some_iff.1 hu
        obtain ⟨hj, e2⟩ := List.getElem?_eq_some_iff.1 ha
        rw [show (⟨b, o, none⟩ : Addr).add j = ⟨b, o + j, none⟩ by unfold Addr.add; split <;> simp_all, hc j hj, e2]
    have hb : (n + m) * bytes ≤ 140737488355328 := Nat.le_trans (Nat.mul_le_mul h63 hby) (by decide)
    obtain ⟨v', w', hrun, h2, h3, _, _⟩ := run_append_own_at (P := P) w base S ty E i0 z 1 bytes K.u hi hz0 hz1 hz2 K.z1 (by omega) v n _ hown ad m c (L.map enc) (by rw [List.length_map]; omega) hc (fun u hu => by
      obtain ⟨a, _, rfl⟩ := List.mem_map.1 hu
      exact h1 a) (by unfold maxLen; omega) hb hbase
    exact ⟨v', w', hrun, by rw [List.map_append]; exact h2, h3⟩
theorem wp_append_row (K : Elem P S E z bytes) (h1 : ∀ a, (enc a).oneCell' = true) {w : World} {o : Oper} {a : Act} {K' : Act → World → Prop} {Q : Exit → Act → World → Prop} (s x : Operand)
    (ho : o.op = .call { callee := .builtin .append, args := #[s, x], argTypes := #[S, S] }) (base : Nat) (v : Value) (n : Nat) (L0 : List α) (hs : a.eval s = v) (hown : w.ownsRow base E 1 v n (L0.map enc))
    (A : Option Addr) (m c : Nat) (L : List α) (hx : a.eval x = .slice A m c) (hR : Row enc w A L) (hL : L.length = m) (h63 : n + m ≤ 1000000) (hby : bytes ≤ 64) (hbase : base ≤ w.heap.size)
    (h : ∀ v' w', w'.ownsRow base E 1 v' (n + m) ((L0 ++ L).map enc) → w.grownBy w' v.ownBlock → K' (a.put o.dst v') w') : o.wp P a w K' Q := by
  obtain ⟨v', w', hrun, h2, h3⟩ := run_append_row K h1 w o.type base v n L0 hown A m c L hR hL h63 hby hbase
  unfold Oper.wp execOp
  simp only [ho, resolve, invoke, builtin, Sem.run_bind, Sem.run_pure, Result.andThen_ok, List.map_toArray, List.map_cons, List.map_nil, hs, hx, hrun]
  exact h v' w' h2 h3
theorem wpList_append_row (K : Elem P S E z bytes) (h1 : ∀ a, (enc a).oneCell' = true) {w : World} {ops : Array Oper} {rest : List Oper} {o : Oper} {a : Act} {Q : Exit → Act → World → Prop} (hgd : o.guard = none) (s x : Operand)
    (ho : o.op = .call { callee := .builtin .append, args := #[s, x], argTypes := #[S, S] }) (base : Nat) (v : Value) (n : Nat) (L0 : List α) (hs : a.eval s = v) (hown : w.ownsRow base E 1 v n (L0.map enc))
    (A : Option Addr) (m c : Nat) (L : List α) (hx : a.eval x = .slice A m c) (hR : Row enc w A L) (hL : L.length = m) (h63 : n + m ≤ 1000000) (hby : bytes ≤ 64) (hbase : base ≤ w.heap.size)
    (h : ∀ v' w', w'.ownsRow base E 1 v' (n + m) ((L0 ++ L).map enc) → w.grownBy w' v.ownBlock → wpList P ops Q rest (a.put o.dst v') w') : wpList P ops Q (o :: rest) a w :=
  wpList_plain hgd fun _ hK => wp_append_row K h1 s x ho base v n L0 hs hown A m c L hx hR hL h63 hby hbase fun v' w' h2 h3 => hK _ _ (h v' w' h2 h3)
end
end Go.Proofs.Ytbgdkhbembjjlaa
