/- Flags as values: 16 cells; their blocks; '=='. -/
import Derived.Test.YtafgdkgmjigjoaaPat
import Derived.Test.YtafgdkgmjigjoaaPlain
namespace Go.Proofs.Ytafgdkgmjigjoaa
open Go.RowKit Num
set_option linter.unusedVariables false
set_option linter.unusedSimpArgs false

/-- The bytes of L over those of P. -/
def ov (P : Nat → Int) (L : List Int) (j : Nat) : Int := L.getD j (P j)
theorem ov_in (P : Nat → Int) (L : List Int) (j : Nat) (h : j < L.length) : ov P L j = L[j] := by simp [ov, h]
theorem ov_out (P : Nat → Int) (L : List Int) (j : Nat) (h : ¬ j < L.length) : ov P L j = P j := by simp [ov, List.getD_eq_getElem?_getD, List.getElem?_eq_none (Nat.le_of_not_lt h)]
/-- How many flags are loaded. -/
def cl (n : Int) : Nat := (min (max n 0) 16).toNat
theorem cl_le (n : Int) : cl n ≤ 16 := by unfold cl; omega
theorem cl_eq (n : Int) : min (max n 0) 16 = (cl n : Int) := by unfold cl; omega
theorem cl_nat (k : Nat) (h : k ≤ 16) : cl (k : Int) = k := by unfold cl; omega
theorem lstP_get? (P : Nat → Int) (j : Nat) : (lstP P)[j]? = if j < 16 then some (P j) else none := by
  by_cases h : j < 16
  · rw [if_pos h, List.getElem?_eq_getElem (by rw [lstP_len]; exact h), lstP_get _ _ h]
  · rw [if_neg h, List.getElem?_eq_none (by rw [lstP_len]; omega)]
theorem take_len (P : Nat → Int) (k : Nat) (h : k ≤ 16) : ((lstP P).take k).length = k := by rw [List.length_take, lstP_len]; omega
theorem pc_list (P : Nat → Int) : pc P = ((lstP P).map (Value.int .u8)).toArray := by
  apply Array.ext_getElem?
  intro j
  have e : ((lstP P).map (Value.int .u8)).toArray[j]? = ((lstP P)[j]?).map (Value.int .u8) := by rw [← List.getElem?_map]; exact List.getElem?_toArray
  rw [e, lstP_get?]
  by_cases h : j < 16
  · rw [pc_get _ _ h, if_pos h]; rfl
  · rw [Array.getElem?_eq_none (by rw [pc_size]; omega), if_neg h]; rfl
theorem lst_over (P : Nat → Int) (L : List Int) : splice (lstP P) 0 (L.take 16) = lstP (ov P L) := by
  apply List.ext_getElem?
  intro j
  have ll : (L.take 16).length ≤ 16 := by rw [List.length_take]; omega
  rw [splice_get _ _ _ (by rw [lstP_len]; omega), if_neg (by omega), Nat.zero_add, lstP_get?, lstP_get?]
  by_cases h1 : j < (L.take 16).length
  · have h2 : j < L.length := by rw [List.length_take] at h1; omega
    rw [if_pos h1, if_pos (by omega), Nat.sub_zero, List.getElem?_eq_getElem h1, List.getElem_take, ov_in _ _ _ h2]
  · rw [if_neg h1]
    by_cases h2 : j < 16
    · rw [if_pos h2, if_pos h2, ov_out _ _ _ (by rw [List.length_take] at h1; omega)]
    · rw [if_neg h2, if_neg h2]
theorem pc_copy (P : Nat → Int) (L : List Int) : (splice ((lstP P).map (Value.int .u8)) 0 ((L.take 16).map (Value.int .u8))).toArray = pc (ov P L) := by
  rw [splice_map, lst_over, ← pc_list]
/-- What was saved is loaded. -/
theorem lst_saved (P : Nat → Int) (L : List Int) (h : L.length ≤ 16) : (lstP (ov P L)).take L.length = L := by
  apply List.ext_getElem?
  intro j
  rw [List.getElem?_take, lstP_get?]
  by_cases h1 : j < L.length
  · rw [if_pos h1, if_pos (by omega), ov_in _ _ _ h1, List.getElem?_eq_getElem h1]
  · rw [if_neg h1, List.getElem?_eq_none (by omega)]

theorem aggFla : AggT Try.prog 26 16 := ⟨⟨_, Try.underlying26, rfl⟩, by kernel_rfl⟩
theorem zeroFla : ZeroT Try.prog 26 (pc zeroP) := by
  unfold ZeroT
  rw [pc_size]
  kernel_rfl
theorem zeroF (w : World) : (zeroValue 26).run Try.prog w = .ok (.agg (pc zeroP)) w := run_alloc zeroFla
theorem built_fla : Try.prog.built 26 [] = some (pc zeroP) := by kernel_rfl

/-- Block b is a variable that holds flags. -/
def FB (b : Nat) (P : Nat → Int) (w : World) : Prop := Blk b 26 (pc P) w
section
variable {b : Nat} {P Q : Nat → Int} {w w' : World}
theorem FB.lt (H : FB b P w) : b < w.heap.size := Blk.lt H
theorem FB.below (H : FB b P w) {n : Nat} (hb : Below n w w') (hn : b < n) : FB b P w' := Blk.below H hb hn
theorem FB.step (H : FB b P w) (hb : Below w.heap.size w w') : FB b P w' := Blk.step H hb
theorem FB.new (w : World) (P : Nat → Int) : FB w.heap.size P (w.alloc (.cells (pc P) 26)) := Blk.new _ _ _
theorem FB.alloc (H : FB b P w) (o : Obj) : FB b P (w.alloc o) := Blk.alloc H o
theorem FB.drew (H : FB b P w) : FB b P w.drew := H
theorem FB.otherRow (H : FB b P w) {g : Nat} (hg : b ≠ g) (ds : Array Value) : FB b P (w.setRow g ds) := Blk.otherRow H hg ds
theorem FB.other (H : FB b P w) {g : Nat} (hg : b ≠ g) (o : Nat) (v : Value) : FB b P (w.setCell ⟨g, o, none⟩ v) := Blk.other H hg o v
theorem FB.cell (H : FB b P w) {j : Nat} (hj : j < 16) : w.cell? ⟨b, j, none⟩ = some (.int .u8 (P j)) := by rw [Blk.cell H, pc_get _ _ hj]
theorem FB.fz (H : FB b P w) (j : Nat) : w.frozen? ⟨b, j, none⟩ = false := Blk.frozen H j
theorem FB.store (H : FB b P w) (Q : Nat → Int) : FB b Q (w.setRow b (pc Q)) := Blk.store H _
theorem FB.rd (H : FB b P w) : Rd w (some ⟨b, 0, none⟩) (lstP P) := fun _ => by
  refine ⟨_, rfl, H.lt, fun j hj => ?_⟩
  have h16 : j < 16 := by rw [lstP_len] at hj; exact hj
  rw [add_pl, Nat.zero_add, H.cell h16, lstP_get _ _ h16]
/-- .. its first flags. -/
theorem rd_take {A : Option Addr} {L : List Int} (H : Rd w A L) (k : Nat) : Rd w A (L.take k) := fun hne => by
  obtain ⟨ad, e, hb, hc⟩ := H (by rintro rfl; simp at hne)
  refine ⟨ad, e, hb, fun j hj => ?_⟩
  rw [List.length_take] at hj
  rw [hc j (by omega), List.getElem_take]
/-- The class of worlds that are calm from W on holds a block of flags. -/
theorem FB.calm {W : World} (H : FB b P W) : ∀ w', (∃ u : Calm W, w' = u.w) → FB b P w' := fun w' hw => by obtain ⟨u, rfl⟩ := hw; exact H.step u.below
end
theorem belowRowF {B : Nat} {a w : World} (h : Below B a w) {g : Nat} (hg : B ≤ g) (cs : Array Value) : Below B a (w.setRow g cs) := belowRow' h hg cs

/-- A call hands back a new slice of the n bytes L. -/
def Got (L : List Int) (n : Nat) (w : World) (e : Ending) (w' : World) : Prop := ∃ A c, e = .returned (.slice A n c) ∧ w'.ownsRow w.heap.size 5 1 (.slice A n c) n (L.map (Value.int .u8)) ∧ L.length = n ∧ Below w.heap.size w w'
theorem Got.of {L : List Int} {n : Nat} {w w' : World} {e : Ending} (h : Gives 5 L w e w') (hn : L.length = n) : Got L n w e w' := by
  obtain ⟨v, he, ho, hb⟩ := h
  subst hn
  obtain ⟨A, c, rfl⟩ := own_form ho
  exact ⟨A, c, he, ho, rfl, hb⟩
/-- A new slice of bytes that are written out. -/
theorem rd_lit {w : World} {g : Nat} {L : List Int} {t : TypeId} (H : Blk g t (arr L) w) : Rd w (some ⟨g, 0, none⟩) L := fun hne => by
  refine ⟨_, rfl, H.lt, fun j hj => ?_⟩
  rw [add_pl, Nat.zero_add, H.cell, arr_get _ _ hj]

/-! ### '==' of flags -/
theorem part_fla (P : Nat → Int) (w : World) : (part 24 (pc P) 0).run Try.prog w = .ok (.agg (pc P)) w := by
  have e : (pc P).extract 0 (0 + 16) = pc P := by
    have h := pc_size P
    rw [Nat.zero_add, ← h]
    simp
  rw [run_part_agg8 (P := Try.prog) 24 _ (pc P) 0 16 w rfl Try.underlying24 aggPat.i, e]
theorem same_flas (P Q : Nat → Int) (d : Nat) (w : World) : (Op.equalIn (d + 3) 26 (.agg (pc P)) (.agg (pc Q))).run Try.prog w = .ok (eqP P Q) w := by
  have ht : Try.prog.underlying 26 = some (.struct (Try.prog.fieldsOf 26)) := by kernel_rfl
  have hp : Try.prog.stoodInHeld 26 = false := by kernel_rfl
  rw [run_equalIn_struct (P := Try.prog) w (d + 2) 26 _ _ ht hp]
  have hx := part_fla P w
  have hy := part_fla Q w
  have he := same_pats P Q d w
  clear ht hp
  generalize pc P = C at *
  generalize pc Q = D at *
  generalize eqP P Q = b at *
  simp only [Program.fieldsOf, Try.underlying26, Op.eqFields]
  rw [if_pos (by decide), Sem.run_bind, hx, Result.andThen_ok, Sem.run_bind, hy, Result.andThen_ok, Sem.run_bind, he, Result.andThen_ok]
  cases b
  · rw [if_pos (by decide), Sem.run_pure]
  · rw [if_neg (by decide), Sem.run_pure]
theorem eq_flas (P Q : Nat → Int) (w : World) : (binOp .eql 26 (.agg (pc P)) (.agg (pc Q))).run Try.prog w = .ok (.bool (eqP P Q)) w := by
  have h := same_flas P Q 9997 w
  have e : (10000 : Nat) = 9997 + 3 := by decide
  rw [run_eql_struct, e, h]
  simp only [Result.andThen_ok]
theorem eqGuardFla : Try.prog.eqGuardType Try.prog.depth 26 = false := by kernel_rfl
theorem exec_eqF {o : Oper} {ρ : Operand → Value} {w : World} (x y : Operand) (z : TypeId) (ho : o.op = .binOp .eql 26 x y z) (P Q : Nat → Int) (hx : ρ x = .agg (pc P)) (hy : ρ y = .agg (pc Q)) : (execOp ρ o).run Try.prog w = .ok (.value (.bool (eqP P Q))) w := by
  unfold execOp
  simp only [ho, hx, hy]
  rw [Sem.run_bind, Sem.run_bind, run_eqGuard_agg w .eql 26 x y (pc P) (pc Q) eqGuardFla, Result.andThen_ok, eq_flas, Result.andThen_ok, Sem.run_pure]
section
variable {ops : Array Oper} {C : World → Prop} {Q' : Act → Prop} {o : Oper} {rest : List Oper} {a : Act} {P Q : Nat → Int} {b : Nat}
theorem quiet_eqF (hw : Region.wanted o (yielded ops a.tmps) = true) (x y : Operand) (z : TypeId) (ho : o.op = .binOp .eql 26 x y z) (hx : a.eval x = .agg (pc P)) (hy : a.eval y = .agg (pc Q))
    (h : wpQuiet Try.prog ops C Q' rest (a.put o.dst (.bool (eqP P Q)))) : wpQuiet Try.prog ops C Q' (o :: rest) a :=
  quiet_run hw _ (fun w' _ => exec_eqF x y z ho P Q hx hy) h
theorem quiet_litF (hw : Region.wanted o (yielded ops a.tmps) = true) (ho : o.op = .build 26 #[])
    (h : wpQuiet Try.prog ops C Q' rest (a.put o.dst (.agg (pc zeroP)))) : wpQuiet Try.prog ops C Q' (o :: rest) a :=
  quiet_build_all hw ho (by simp; exact built_fla) h
theorem quiet_loadF (H : ∀ w, C w → FB b P w) (hw : Region.wanted o (yielded ops a.tmps) = true) (x : Operand) (ho : o.op = .load 26 x) (hx : a.eval x = .pointer (some ⟨b, 0, none⟩))
    (h : wpQuiet Try.prog ops C Q' rest (a.put o.dst (.agg (pc P)))) : wpQuiet Try.prog ops C Q' (o :: rest) a :=
  quiet_load_all aggFla H (pc_size _) hw x ho hx h
theorem list_loadF {Q : Exit → Act → World → Prop} {w : World} (H : FB b P w) (hw : Region.wanted o (yielded ops a.tmps) = true) (x : Operand) (ho : o.op = .load 26 x) (hx : a.eval x = .pointer (some ⟨b, 0, none⟩))
    (h : wpList Try.prog ops Q rest (a.put o.dst (.agg (pc P))) w) : wpList Try.prog ops Q (o :: rest) a w :=
  wpList_step fun K hK => by rw [if_pos hw]; unfold Oper.wp; rw [exec_load_all aggFla H (pc_size _) x ho hx]; exact hK _ _ h
theorem list_litF {Q : Exit → Act → World → Prop} {w : World} (hgd : o.guard = none) (ho : o.op = .build 26 #[])
    (h : wpList Try.prog ops Q rest (a.put o.dst (.agg (pc zeroP))) w) : wpList Try.prog ops Q (o :: rest) a w :=
  list_build_all hgd ho (by simp; exact built_fla) h
end
end Go.Proofs.Ytafgdkgmjigjoaa
