/- Contract of screen.rowBits. -/
import Derived.Test.YtplmmfgmbfcjpaaScrChunk
import Derived.Test.YtplmmfgmbfcjpaaPlaneBits
namespace Go.Proofs.Ytplmmfgmbfcjpaa
open Go.RowKit Go.Shelf Num
set_option linter.unusedVariables false
set_option linter.unusedSimpArgs false
attribute [local go_sem] Oper.semAt_some

/-- The bits of the first j bytes from place q on. -/
def accB (F : Nat → Nat) (q : Nat) : Nat → Nat
  | 0 => 0
  | j + 1 => accB F q j * 256 + F (q + j)
/-- Row k of rows of z bytes. -/
def rowv (F : Nat → Nat) (z k : Nat) : Nat := accB F (k * z) z
theorem or16 (x b : Nat) (hx : x ≤ 255) (hb : b ≤ 255) : bits .or .u16 ((x * 256 : Nat) : Int) (b : Int) = ((x * 256 + b : Nat) : Int) := by
  unfold bits
  have e : (BitVec.ofInt IntKind.u16.bits ((x * 256 : Nat) : Int) ||| BitVec.ofInt IntKind.u16.bits (b : Int)).toNat = x * 256 + b := by
    show (BitVec.ofInt 16 ((x * 256 : Nat) : Int) ||| BitVec.ofInt 16 (b : Int)).toNat = x * 256 + b
    rw [BitVec.ofInt_natCast, BitVec.ofInt_natCast, BitVec.toNat_or, BitVec.toNat_ofNat, BitVec.toNat_ofNat, Nat.mod_eq_of_lt (by omega), Nat.mod_eq_of_lt (by omega)]
    rw [show x * 256 = 2 ^ 8 * x by omega, Nat.two_pow_add_eq_or_of_lt (by omega : b < 2 ^ 8) x]
  simp only [e]
  simp [IntKind.wrap, IntKind.bits, IntKind.signed]
  omega
theorem shl16 (x : Nat) (hx : x ≤ 255) : IntKind.u16.wrap ((x : Int) * 2 ^ 8) = ((x * 256 : Nat) : Int) := by
  simp [IntKind.wrap, IntKind.bits, IntKind.signed]
  omega
theorem wrap16 (b : Nat) (hb : b ≤ 65535) : IntKind.u16.wrap (b : Int) = (b : Int) := by
  simp [IntKind.wrap, IntKind.bits, IntKind.signed]
  omega
theorem rowv_le {F : Nat → Nat} (hF : ∀ j, F j ≤ 255) (z k : Nat) (hz : z ≤ 2) : rowv F z k ≤ 65535 := by
  unfold rowv
  rcases (show z = 0 ∨ z = 1 ∨ z = 2 by omega) with rfl | rfl | rfl <;> simp only [accB]
  · omega
  · have := hF (k * 1 + 0); omega
  · have h0 := hF (k * 2 + 0)
    have h1 := hF (k * 2 + 1)
    simp only [Nat.zero_mul, Nat.zero_add, Nat.add_zero] at *
    omega
theorem accB_le {F : Nat → Nat} (hF : ∀ j, F j ≤ 255) (q j : Nat) (hj : j < 2) : accB F q j ≤ 255 := by
  rcases (show j = 0 ∨ j = 1 by omega) with rfl | rfl <;> simp only [accB]
  · omega
  · have := hF (q + 0); omega
theorem info16 : (Try.prog.info? 91).map (fun i => (i.zero, i.size, i.bytes)) = some (some (.int .u16 0), 1, 2) := by kernel_rfl
/-- A box below the list's own row is as it was behind an append and the store of what it gave. -/
theorem box_step8 {W w1 : World} {B B0 n1 k : Nat} {e : TypeId} {v v' : Value} {xs : List Value} {tmp : Obj} (hrow : W.ownsRow n1 e 1 v k xs) (hB : B < n1) (hW : n1 ≤ W.heap.size) (hne : B ≠ B0)
    (hgrow : (W.alloc tmp).grownBy w1 v.ownBlock) : (w1.setCell ⟨B0, 0, none⟩ v').heap[B]? = W.heap[B]? := by
  have h1 : (W.alloc tmp).heap[B]? = W.heap[B]? := heap_alloc_old W tmp (by omega : B < W.heap.size)
  have h2 : w1.heap[B]? = (W.alloc tmp).heap[B]? := hgrow.block B (by simp; omega) (fun e => by have := (hrow.lt B e.symm).1; omega)
  have h3 : (w1.setCell ⟨B0, 0, none⟩ v').heap[B]? = w1.heap[B]? := Below.heap_setCell w1 _ v' B hne
  rw [h3, h2, h1]
set_option maxRecDepth 100000 in
set_option maxHeartbeats 4000000 in
theorem rowBits_any (g o n z c : Nat) (A : Option Addr) (F : Nat → Nat) (z0 : 0 < z) (z1 : z ≤ 2) (n1 : n ≤ 16) (hc : n * z ≤ c) (c1 : c ≤ 1000) (hF : ∀ j, F j ≤ 255) (w : World) (hD : DatA g o F (n * z) A w) :
    Calls Try.prog 39 #[.slice A (n * z) c, .int .i64 (z : Int)] w fun e w' => ∃ A' c', e = .returned (.slice A' n c') ∧ Rd16 w' A' ((List.range n).map (rowv F z)) ∧ (∀ ad, A' = some ad → w.heap.size ≤ ad.block) ∧ Below w.heap.size w w' := by
  refine (callsIn_wide (n := 6)).1 ?_
  obtain ⟨i0, hi, hz0, hz1, hz2⟩ := info_parts info16
  have hA : 0 < n → A = some ⟨g, o, none⟩ := fun h => (hD (Nat.mul_pos h z0)).1
  have DD := Lib.hid (And.intro hD hF)
  clear hD hF
  refine callsIn_of_wp_marks Try.func39 rfl trivial ?_ rfl
  simp only [Try.ntmps39, List.size_toArray, List.length_cons, List.length_nil, Nat.reduceAdd, Nat.reduceSub, Array.replicate_succ, Array.replicate_zero, List.push_toArray, List.append_toArray, List.nil_append, List.cons_append]
  gi_wp2_with fail
  refine ⟨trivial, ?_⟩
  refine (chunk_in _ _ _ _ _ z0 _).mono ?_
  rintro e w' ⟨rfl, rfl⟩
  simp only []
  gi_wp2_with fail
  have b5 := ((Boxed.new w 77 (.slice none 0 0)).alloc (.cells #[.slice A (n * z) c] 39)).alloc (.cells #[.int .i64 (z : Int)] 3)
  have bS := (Boxed.new (w.alloc (.cells #[.slice none 0 0] 77)) 39 (.slice A (n * z) c)).alloc (.cells #[.int .i64 (z : Int)] 3)
  have bZ := Boxed.new ((w.alloc (.cells #[.slice none 0 0] 77)).alloc (.cells #[.slice A (n * z) c] 39)) 3 (.int .i64 (z : Int))
  have BB := ((((Below.refl _ w).alloc (Nat.le_refl _) (.cells #[.slice none 0 0] 77)).alloc (by simp) (.cells #[.slice A (n * z) c] 39)).alloc (by simp; omega) (.cells #[.int .i64 (z : Int)] 3))
  rw [World.size_alloc] at bS
  rw [World.size_alloc, World.size_alloc] at bZ
  have Z3 : (((w.alloc (.cells #[.slice none 0 0] 77)).alloc (.cells #[.slice A (n * z) c] 39)).alloc (.cells #[.int .i64 (z : Int)] 3)).heap.size = w.heap.size + 3 := by simp
  rw [World.size_alloc]
  generalize ((w.alloc (.cells #[.slice none 0 0] 77)).alloc (.cells #[.slice A (n * z) c] 39)).alloc (.cells #[.int .i64 (z : Int)] 3) = w3 at *
  refine wpIn_rangeFunc_ownG rfl (by omega) (gf := 64) (lb := #[.pointer (some ⟨w.heap.size + 1, 0, none⟩), .pointer (some ⟨w.heap.size + 1 + 1, 0, none⟩)]) rfl trivial (enters_of Try.func64 (by kernel_rfl) rfl)
    (chunk_stops _ (by omega) (w.heap.size + 1) (w.heap.size + 1 + 1) g o n z c A z0 z1 n1 hc c1 hA w3 bS bZ) Keep2.trans (fun W l o o' hl _ _ _ => keep2_put (by omega) (by omega)) (Below.refl _ _) (fun _ => rfl)
    (fun pre W => (∃ v, Boxed W w.heap.size 77 v ∧ W.ownsRow (w.heap.size + 3) 91 1 v pre.length (pre.map fun x : Fin n => Value.int .u16 (rowv F z x.val : Int)) ∧ True) ∧ (w.heap.size + 3 ≤ W.heap.size ∧ Below w.heap.size w W))
    (fun _ _ _ => False)
    (OwnFrom.and (Own.from (holdsRow_own (w.heap.size + 3) w.heap.size 77 91 1 (fun pre : List (Fin n) => pre.length) (fun pre => pre.map fun x : Fin n => Value.int .u16 (rowv F z x.val : Int)) (fun pre v => True)) _) (OwnFrom.and (fun s A B row hs hg _ => Nat.le_trans hs hg.size) (ownFrom_below (Nat.le_refl _) (by omega))))
    (fun _ _ _ _ _ hs _ _ => hs)
    ⟨⟨_, b5, World.ownsRow_nil _ _ _ _, trivial⟩, by omega, BB⟩
    (fun x => { tmps := #[.slice A (n * z) c, .int .i64 (z : Int), undef, undef, .slice none 0 0, .pointer (some ⟨w.heap.size, 0, none⟩), chunkV g o z x.val, undef, undef, undef, .slice A (n * z) c, .int .i64 (z : Int), .func (.func 64) #[] #[.pointer (some ⟨w.heap.size + 1, 0, none⟩), .pointer (some ⟨w.heap.size + 1 + 1, 0, none⟩)], chunkV g o z x.val, undef, undef, undef, undef, undef, undef, undef, undef, undef, undef, undef, undef, undef, undef, undef, undef, undef], defers := [] }) ?assign ?body ?done ?stop
  case assign =>
    intro l x W K hK
    gi_wp2
    exact hK
  case body =>
    rintro l pre ⟨k, hk⟩ W ⟨⟨v, hv, hrow, _⟩, hz, hB⟩ hlt
    have HH := Lib.hid (And.intro hv (And.intro hrow (And.intro hz hB)))
    clear hv hrow hz hB
    unfold chunkV
    dsimp only
    obtain ⟨q, hq⟩ : ∃ q, k * z = q := ⟨_, rfl⟩
    have q1 : q + z ≤ n * z := by rw [← hq, ← Nat.succ_mul]; exact Nat.mul_le_mul_right z hk
    rw [hq]
    have HQ := Lib.hid (And.intro hq (And.intro q1 hlt))
    clear hq q1 hlt
    gi_wp2
    gi_loop [7, 16] (fun b i => ∃ j X : Nat, j ≤ z ∧ b = .int .u16 (X : Int) ∧ i = .int .i64 (j : Int) ∧ X = accB F q j) (fun _ i => z - (intOf i).toNat)
    case atStart => exact ⟨0, 0, by omega, rfl, rfl, rfl⟩
    case round =>
      obtain ⟨j, X, hj, rfl, rfl, hX⟩ := hrel
      have XX := Lib.hid hX
      by_cases hlt : j < z
      · have jI : (j : Int) < (z : Int) := by omega
        have X1 : X ≤ 255 := by rw [hX]; exact accB_le DD.out.2 q j (by omega)
        obtain ⟨_, hgl, hcs⟩ := DD.out.1 (by have := HQ.out.2.1; omega)
        obtain ⟨b, hb⟩ : ∃ b, F (q + j) = b := ⟨_, rfl⟩
        have b1 : b ≤ 255 := by rw [← hb]; exact DD.out.2 _
        have cb : W.cell? ⟨g, o + q + j, none⟩ = some (.int .u8 (b : Int)) := by
          rw [Nat.add_assoc, HH.out.2.2.2.cell (p := ⟨g, o + (q + j), none⟩) hgl, hcs _ (by have := HQ.out.2.1; omega), hb]
        have e1 := shl16 X X1
        have e2 := or16 X b X1 b1
        have e3 := wrap16 b (by omega)
        obtain ⟨V, hV⟩ : ∃ V, X * 256 + b = V := ⟨_, rfl⟩
        rw [hV] at e2
        have e2 : bits .or .u16 ((X : Int) * 256) (b : Int) = (V : Int) := by rw [← e2]; simp
        have VV := Lib.hid (show V = accB F q (j + 1) by rw [← hV, accB, ← hX, hb])
        clear hX hV hcs hb hgl e1 e3
        gi_wp2
        go_round
        case rel => exact ⟨j + 1, V, by omega, by go_num, by go_num, VV.out⟩
        case measure => simp [intOf]; omega
      · have je : j = z := by omega
        subst je
        clear hlt
        have RV := Lib.hid (show X = rowv F j k by rw [hX, ← HQ.out.1]; rfl)
        clear hX
        have hc := HH.out.1.cell
        gi_wp2_with (gi_at_builtin; refine wpListIn_append_own _ rfl _ _ 77 rfl (w.heap.size + 3) 91 i0 (.int .u16 0) 1 2 Try.underlying77 hi hz0 hz1 hz2 rfl (by decide) _ _ _ rfl (HH.out.2.1.alloc _) ⟨W.heap.size, 0, none⟩ 1 1 [.int .u16 (X : Int)] rfl rfl (cell_one_new _ _ _) (by simp [Value.oneCell']) (by unfold maxLen; have := HQ.out.2.2; omega) (by have := HQ.out.2.2; omega) (by have := HH.out.2.2.1; simp; omega) ?_; intro v' w1 hown' hgrow _; obtain ⟨g', cap', rfl⟩ := ownsRow_succ hown'; obtain ⟨hv1, hv2, hr2, hk2, hb2⟩ := HH.out.1.appended (by decide) (own_mono HH.out.2.1 (by omega : w.heap.size ≤ w.heap.size + 3)) HH.out.2.2.2.size (Nat.le_refl _) (own_mono hown' (by omega : w.heap.size ≤ w.heap.size + 3)) hgrow; have hc1 := hv1.cell; have hf1 := hv1.frozen)
        have hr3 := hown'.kept (grownBy_setCell' w1 w.heap.size (.slice (some ⟨g', 0, none⟩) (pre.length + 1) cap')) (.inr (hv1.not_row (by decide) hown').symm)
        refine ⟨hk2.from _, ⟨box_step8 HH.out.2.1 (by omega) HH.out.2.2.1 (by omega) hgrow, box_step8 HH.out.2.1 (by omega) HH.out.2.2.1 (by omega) hgrow⟩, ⟨_, hv2, by simpa [RV.out] using hr3⟩, Nat.le_trans HH.out.2.2.1 (Nat.le_trans (by simp) (Nat.le_trans hgrow.size (by simp))), HH.out.2.2.2.trans hb2⟩
  case done =>
    rintro D ys W hD rfl ⟨⟨v, hv, hrow, _⟩, _, hB⟩ hK
    have hc := hv.cell
    gi_wp2
    refine ⟨by simp, .inl ⟨_, _, rfl, run_takeDeferred hK, ?_⟩⟩
    obtain ⟨A', c', rfl⟩ := own_form hrow
    have hr := ownsRow_putObj hrow (.deferred none) hK rfl
    rw [List.length_finRange] at hr ⊢
    have hl : (List.finRange n).map (fun x : Fin n => Value.int .u16 (rowv F z x.val : Int)) = ((List.range n).map (rowv F z)).map (fun x : Nat => Value.int .u16 (x : Int)) := by
      apply List.ext_getElem
      · simp
      · intro i h1 h2; simp
    rw [hl] at hr
    refine ⟨_, results_tmp rfl _ _ _, A', c', rfl, ?_, fun ad had => ?_, hB.trans (belowK_b (w := w) (Nat.le_refl _) W D _ _ (by omega) hK rfl rfl)⟩
    intro hne
    obtain ⟨b, o', hA', hlt', hcs⟩ := Row.of_own hr hne
    refine ⟨⟨b, o', none⟩, hA', hlt', fun j hj => ?_⟩
    rw [Addr.add_mid]
    exact hcs j hj
    · rcases hr.2 with ⟨h, _⟩ | ⟨g2, cp, cur, h, hg, _⟩
      · cases h
        try cases had
      · injection h with h1 h2 h3
        subst h1
        injection had with had
        subst had
        exact Nat.le_trans (Nat.le_add_right _ 3) hg
  case stop =>
    rintro D c pre W _ _ h _
    exact h.elim
end Go.Proofs.Ytplmmfgmbfcjpaa
