/- The walk of MemOverwrites. -/
import Derived.Test.YtllfakimcgbppaaDoorMemLaw
import Derived.Test.YtllfakimcgbppaaDoorAppRd
namespace Go.Proofs.YtllfakimcgbppaaDoor
open Go.RowKit Num
set_option linter.unusedVariables false

theorem wrs_two (w : World) (a a' : Int) (A A' : Option Addr) (n c n' c' : Nat) (L L' : List Int) (h : Arg w A n c L) (h' : Arg w A' n' c' L') (lo : -9223372036854775808 ≤ a) (hi : a ≤ 9223372036854775807) (lo' : -9223372036854775808 ≤ a') (hi' : a' ≤ 9223372036854775807) (t : TypeId) :
    Wrs (w.alloc (.cells #[.int .i64 a, .slice A n c, .int .i64 a', .slice A' n' c'] t)) (some ⟨w.heap.size, 0, none⟩) [⟨a, A, n, c, L⟩, ⟨a', A', n', c', L'⟩] := fun _ => by
  refine ⟨_, rfl, by simp, fun i hi2 => ?_⟩
  have k := h.below (below_new w (.cells #[.int .i64 a, .slice A n c, .int .i64 a', .slice A' n' c'] t))
  have k' := h'.below (below_new w (.cells #[.int .i64 a, .slice A n c, .int .i64 a', .slice A' n' c'] t))
  obtain rfl | rfl : i = 0 ∨ i = 1 := by simp at hi2; omega
  · refine ⟨?_, ?_, ⟨k.len, k.rd, k.cap, k.max, lo, hi⟩⟩
    · rw [add_pl, cell_of_row _ _ _ _ _ _ (heap_alloc_new w _)]; rfl
    · rw [add_pl, cell_of_row _ _ _ _ _ _ (heap_alloc_new w _)]; rfl
  · refine ⟨?_, ?_, ⟨k'.len, k'.rd, k'.cap, k'.max, lo', hi'⟩⟩
    · rw [add_pl, cell_of_row _ _ _ _ _ _ (heap_alloc_new w _)]; rfl
    · rw [add_pl, cell_of_row _ _ _ _ _ _ (heap_alloc_new w _)]; rfl

/-- Three memories beside each other. -/
structure Tri (w : World) (x y z : Nat) (Mx My Mz : List Int) (vx vy vz : Value) (wi : World) : Prop where
  below : Below w.heap.size w wi
  hx : w.heap.size ≤ x
  xy : x < y
  yz : y < z
  mx : MemAt x Mx vx wi
  my : MemAt y My vy wi
  mz : MemAt z Mz vz wi
theorem mem_apart {w w' : World} {p q base k : Nat} {M : List Int} {u v : Value} {ys : List Value} (hq : MemAt q M v w) (hu : w.ownsRow base 41 2 u k ys) (ha : Apart p u.ownBlock w w') (hne : q ≠ p) : MemAt q M v w' :=
  hq.keep (ha.block q hq.lt hne fun e => own_tag hu hq (by decide) e.symm)
section
variable {w wi wj : World} {x y z n k : Nat} {Mx My Mz M' : List Int} {vx vy vz : Value} {xs ys : List Value} {e : Ending}
theorem Tri.step (h : Tri w x y z Mx My Mz vx vy vz wi) (hb : Below wi.heap.size wi wj) : Tri w x y z Mx My Mz vx vy vz wj :=
  ⟨h.below.trans (hb.mono h.below.size), h.hx, h.xy, h.yz, h.mx.keep (hb.block x h.mx.lt), h.my.keep (hb.block y h.my.lt), h.mz.keep (hb.block z h.mz.lt)⟩
theorem Tri.wx (h : Tri w x y z Mx My Mz vx vy vz wi) (hv : wi.ownsRow w.heap.size 41 2 vx k ys) (hw : Wrote x M' w.heap.size n xs vx wi e wj) : e = .returned (.tuple #[]) ∧ ∃ v', Tri w x y z M' My Mz v' vy vz wj ∧ wj.ownsRow w.heap.size 41 2 v' n xs := by
  obtain ⟨he, v', h1, h2, h3, _⟩ := hw
  exact ⟨he, v', ⟨h.below.trans (h3.below h.below.size h.hx fun b hb => (hv.lt b hb).1), h.hx, h.xy, h.yz, h1, mem_apart h.my hv h3 (by have := h.xy; omega), mem_apart h.mz hv h3 (by have := h.xy; have := h.yz; omega)⟩, h2⟩
theorem Tri.wy (h : Tri w x y z Mx My Mz vx vy vz wi) (hv : wi.ownsRow w.heap.size 41 2 vy k ys) (hw : Wrote y M' w.heap.size n xs vy wi e wj) : e = .returned (.tuple #[]) ∧ ∃ v', Tri w x y z Mx M' Mz vx v' vz wj ∧ wj.ownsRow w.heap.size 41 2 v' n xs := by
  obtain ⟨he, v', h1, h2, h3, _⟩ := hw
  exact ⟨he, v', ⟨h.below.trans (h3.below h.below.size (by have := h.hx; have := h.xy; omega) fun b hb => (hv.lt b hb).1), h.hx, h.xy, h.yz, mem_apart h.mx hv h3 (by have := h.xy; omega), h1, mem_apart h.mz hv h3 (by have := h.yz; omega)⟩, h2⟩
theorem Tri.wz (h : Tri w x y z Mx My Mz vx vy vz wi) (hv : wi.ownsRow w.heap.size 41 2 vz k ys) (hw : Wrote z M' w.heap.size n xs vz wi e wj) : e = .returned (.tuple #[]) ∧ ∃ v', Tri w x y z Mx My M' vx vy v' wj ∧ wj.ownsRow w.heap.size 41 2 v' n xs := by
  obtain ⟨he, v', h1, h2, h3, _⟩ := hw
  exact ⟨he, v', ⟨h.below.trans (h3.below h.below.size (by have := h.hx; have := h.xy; have := h.yz; omega) fun b hb => (hv.lt b hb).1), h.hx, h.xy, h.yz, mem_apart h.mx hv h3 (by have := h.xy; have := h.yz; omega), mem_apart h.my hv h3 (by have := h.yz; omega), h1⟩, h2⟩
theorem app_one {L : List Int} {m : Nat} {v : Value} (h : Tri w x y z Mx My Mz vx vy vz wi) (h0 : (wi.alloc (.cells #[] 5)).ownsRow wi.heap.size 5 1 (.slice (some ⟨wi.heap.size, 0, none⟩) 0 0) 0 (([] : List Int).map (Value.int .u8)))
    (o : wj.ownsRow wi.heap.size 5 1 v (0 + m) (([] ++ L : List Int).map (Value.int .u8))) (g : (wi.alloc (.cells #[] 5)).grownBy wj (Value.slice (some ⟨wi.heap.size, 0, none⟩) 0 0).ownBlock) :
    Tri w x y z Mx My Mz vx vy vz wj ∧ wj.ownsRow wi.heap.size 5 1 v m (L.map (Value.int .u8)) ∧ Below wi.heap.size wi wj := by
  have b : Below wi.heap.size wi wj := (below_new wi _).grown g (by simp) fun j ej => (h0.lt j ej).1
  rw [List.nil_append, Nat.zero_add] at o
  exact ⟨h.step b, o, b⟩
theorem app_two {wk : World} {L S : List Int} {m q : Nat} {v v' : Value} (h : Tri w x y z Mx My Mz vx vy vz wi) (h0 : wj.ownsRow wi.heap.size 5 1 v m (L.map (Value.int .u8))) (hb : Below wi.heap.size wi wj)
    (o : wk.ownsRow wi.heap.size 5 1 v' (m + q) ((L ++ S).map (Value.int .u8))) (g : wj.grownBy wk v.ownBlock) :
    Hid (Tri w x y z Mx My Mz vx vy vz wk ∧ wk.ownsRow wi.heap.size 5 1 v' (m + q) ((L ++ S).map (Value.int .u8)) ∧ Below wi.heap.size wi wk) := by
  have b : Below wi.heap.size wi wk := hb.grown g hb.size fun j ej => (h0.lt j ej).1
  exact ⟨h.step b, o, b⟩
theorem Tri.yw (h : Tri w x y z Mx My Mz vx vy vz wi) : w.heap.size ≤ y := by have := h.hx; have := h.xy; omega
theorem Tri.zw (h : Tri w x y z Mx My Mz vx vy vz wi) : w.heap.size ≤ z := by have := h.hx; have := h.xy; have := h.yz; omega
end

set_option linter.unusedSimpArgs false in
set_option maxRecDepth 100000 in
set_option maxHeartbeats 8000000 in
theorem memOverwrites_walk (A : Option Addr) (n c : Nat) (R : List Int) (a : Int) (B : Option Addr) (m d : Nat) (L : List Int) (C : Option Addr) (q f : Nat) (S : List Int) (w : World) (hA : Arg w A n c R) (wa : (Lit.int .i64 a).wf = true) (hB : Arg w B m d L) (hC : Arg w C q f S) (hF : Laid w) :
    Calls Tryd.prog 7 #[.slice A n c, .int .i64 a, .slice B m d, .slice C q f] w fun e w' => e = .returned (.bool true) ∧ Below w.heap.size w w' := by
  obtain ⟨a0, a1⟩ := bd_i64 wa
  have n1 := Nat.le_trans hA.cap hA.max
  have H := Lib.hid (And.intro hA (And.intro hB (And.intro hC hF)))
  clear hA hB hC hF wa
  go_enter Tryd.func7, Tryd.ntmps7
  go_wp2_with fail
  refine (awake5 _ H.out.2.2.2).mono ?_
  rintro e w1 ⟨rfl, b1⟩
  have B1 := Lib.hid b1
  clear b1
  go_wp2_with fail
  refine (few_any A n c _ 2 2 [⟨a, B, m, d, L⟩, ⟨a, C, q, f, S⟩] _ n1 (by unfold maxLen; omega) rfl (wrs_two w1 a a B C m d q f L S (H.out.2.1.below B1.out) (H.out.2.2.1.below B1.out) a0 a1 a0 a1 37)).mono ?_
  rintro e w2 h
  obtain ⟨fb, rfl, hf, rfl⟩ := h
  have B2 := Lib.hid (B1.out.trans ((below_new w1 (.cells #[.int .i64 a, .slice B m d, .int .i64 a, .slice C q f] 37)).mono B1.out.size))
  generalize w1.alloc (.cells #[.int .i64 a, .slice B m d, .int .i64 a, .slice C q f] 37) = w2 at *
  have Hf := Lib.hid hf
  clear hf B1 n1
  cases fb
  · go_wp2_with fail
    refine (awake5 _ (H.out.2.2.2.below B2.out H.out.2.2.2.lt)).mono ?_
    rintro e w3 ⟨rfl, b3⟩
    have B3 := Lib.hid (B2.out.trans (b3.mono B2.out.size))
    clear b3
    go_wp2
    go_ret
    exact ⟨rfl, B3.out⟩
  · obtain ⟨f1, _, f3⟩ := Hf.out rfl
    obtain ⟨s1, s2, s3⟩ := f3 0 (by simp)
    obtain ⟨t1, _, _⟩ := f3 1 (by simp)
    simp only [List.getElem_cons_zero, List.getElem_cons_succ] at s1 s2 s3 t1
    clear Hf f3
    go_wp2_with fail
    refine (new_yes A n c R _ (by omega) H.out.1.len (H.out.1.rd.below B2.out) (H.out.2.2.2.below B2.out H.out.2.2.2.lt)).mono ?_
    rintro e w3 h
    obtain ⟨x, rfl, hx, mx, b3⟩ := h
    have P3 := Lib.hid (And.intro (B2.out.trans (b3.mono B2.out.size)) (And.intro mx (Nat.le_trans B2.out.size hx)))
    clear B2 mx b3 hx
    go_wp2_with fail
    refine (new_yes A n c R _ (by omega) H.out.1.len (H.out.1.rd.below P3.out.1) (H.out.2.2.2.below P3.out.1 H.out.2.2.2.lt)).mono ?_
    rintro e w4 h
    obtain ⟨y, rfl, hy, my, b4⟩ := h
    have P4 := Lib.hid (And.intro (P3.out.1.trans (b4.mono P3.out.1.size)) (And.intro (P3.out.2.1.keep (b4.block x P3.out.2.1.lt)) (And.intro my (And.intro P3.out.2.2 (Nat.lt_of_lt_of_le P3.out.2.1.lt hy : x < y)))))
    clear P3 my b4 hy
    go_wp2_with fail
    refine (new_yes A n c R _ (by omega) H.out.1.len (H.out.1.rd.below P4.out.1) (H.out.2.2.2.below P4.out.1 H.out.2.2.2.lt)).mono ?_
    rintro e w5 h
    obtain ⟨z, rfl, hz, mz, b5⟩ := h
    have T5 : Tri w x y z (initial R) (initial R) (initial R) (.slice none 0 0) (.slice none 0 0) (.slice none 0 0) w5 :=
      ⟨P4.out.1.trans (b5.mono P4.out.1.size), P4.out.2.2.2.1, P4.out.2.2.2.2, Nat.lt_of_lt_of_le P4.out.2.2.1.lt hz, P4.out.2.1.keep (b5.block x P4.out.2.1.lt), P4.out.2.2.1.keep (b5.block y P4.out.2.2.1.lt), mz⟩
    have P5 := Lib.hid T5
    clear P4 mz b5 hz T5
    have lm := H.out.2.1.len
    have lq := H.out.2.2.1.len
    have HL := Lib.hid (And.intro lm lq)
    clear lm lq
    go_wp2_with fail
    refine (write_both x (initial R) (.slice none 0 0) 0 w.heap.size [] a B m d L _ (initial_len _) P5.out.mx (World.ownsRow_nil _ _ _ _) P5.out.below.size (by omega) HL.out.1 (by omega) H.out.2.1.cap (H.out.2.1.rd.below P5.out.below) (fun ad e h0 => Nat.ne_of_lt (Nat.lt_of_lt_of_le (H.out.2.1.block ad e h0) P5.out.hx))).mono ?_
    rintro e w6 h
    obtain ⟨rfl, v6, T6, o6⟩ := P5.out.wx (World.ownsRow_nil _ _ _ _) h
    have P6 := Lib.hid (And.intro T6 o6)
    clear h T6 o6 P5
    have e1 := IntWalk.i64_in (a + (m : Int)) (by omega)
    go_wp2_with fail
    refine (write_both x (put (initial R) a L) v6 (0 + cnt m) w.heap.size _ (a + (m : Int)) C q f S _ (by rw [put_len]; exact initial_len _) P6.out.1.mx P6.out.2 P6.out.1.below.size (by unfold cnt; split <;> omega) HL.out.2 (by omega) H.out.2.2.1.cap (H.out.2.2.1.rd.below P6.out.1.below) (fun ad e h0 => Nat.ne_of_lt (Nat.lt_of_lt_of_le (H.out.2.2.1.block ad e h0) P6.out.1.hx))).mono ?_
    rintro e w7 h
    obtain ⟨rfl, v7, T7, _⟩ := P6.out.1.wx P6.out.2 h
    have ep : put (put (initial R) a L) (a + (m : Int)) S = put (initial R) a (L ++ S) := by rw [put_append, HL.out.1]
    rw [ep] at T7
    have P7 := Lib.hid T7
    clear h T7 P6 ep
    have hown0 : (w7.alloc (.cells #[] 5)).ownsRow w7.heap.size 5 1 (.slice (some ⟨w7.heap.size, 0, none⟩) 0 0) 0 (([] : List Int).map (Value.int .u8)) := World.ownsRow_made w7 #[] 0 (Nat.le_refl _) (by unfold maxLen; omega) rfl
    have Q := Lib.hid (And.intro hown0 (P7.out.step (below_new w7 (.cells #[] 5))))
    clear hown0
    go_wp2_with (first
      | (at_builtin; refine wpList_append_rd rfl (.tmp 69) (.tmp 70) rfl w7.heap.size _ 0 [] rfl Q.out.1 B m d L rfl (H.out.2.1.rd.below Q.out.2.below) HL.out.1 (by omega) (by simp) ?_; intro v8 w8 o8 g8; have P8 := app_one P7.out Q.out.1 o8 g8; clear o8 g8)
      | (at_builtin; refine wpList_append_rd rfl (.tmp 71) (.tmp 72) rfl w7.heap.size _ m L rfl P8.2.1 C q f S rfl (H.out.2.2.1.rd.below P8.1.below) HL.out.2 (by omega) P8.2.2.size ?_; intro v9 w9 o9 g9; have P9 := app_two P7.out P8.2.1 P8.2.2 o9 g9; clear o9 g9 P8))
    obtain ⟨A9, c9, e9⟩ := own_form P9.out.2.1
    subst e9
    have h9 := own_cap P9.out.2.1
    refine (write_both y (initial R) (.slice none 0 0) 0 w.heap.size [] a A9 (m + q) c9 (L ++ S) _ (initial_len _) P9.out.1.my (World.ownsRow_nil _ _ _ _) P9.out.1.below.size (by omega) (by rw [List.length_append, HL.out.1, HL.out.2]) (by omega) h9 (own_rd P9.out.2.1) (fun ad e h0 hc => own_tag P9.out.2.1 P9.out.1.my (by decide) (by rw [e, ← hc]; rfl))).mono ?_
    rintro e wA h
    obtain ⟨rfl, vA, TA, _⟩ := P9.out.1.wy (World.ownsRow_nil _ _ _ _) h
    have PA := Lib.hid TA
    clear h TA P9 h9 Q
    go_wp2_with fail
    refine (write_both z (initial R) (.slice none 0 0) 0 w.heap.size [] a C q f S _ (initial_len _) PA.out.mz (World.ownsRow_nil _ _ _ _) PA.out.below.size (by omega) HL.out.2 (by omega) H.out.2.2.1.cap (H.out.2.2.1.rd.below PA.out.below) (fun ad e h0 => Nat.ne_of_lt (Nat.lt_of_lt_of_le (H.out.2.2.1.block ad e h0) PA.out.zw))).mono ?_
    rintro e wB h
    obtain ⟨rfl, vB, TB, oB⟩ := PA.out.wz (World.ownsRow_nil _ _ _ _) h
    have PB := Lib.hid (And.intro TB oB)
    clear h TB oB PA
    go_wp2_with fail
    refine (write_both z (put (initial R) a S) vB (0 + cnt q) w.heap.size _ a B m d L _ (by rw [put_len]; exact initial_len _) PB.out.1.mz PB.out.2 PB.out.1.below.size (by unfold cnt; split <;> omega) HL.out.1 (by omega) H.out.2.1.cap (H.out.2.1.rd.below PB.out.1.below) (fun ad e h0 => Nat.ne_of_lt (Nat.lt_of_lt_of_le (H.out.2.1.block ad e h0) PB.out.1.zw))).mono ?_
    rintro e wC h
    obtain ⟨rfl, vC, TC, oC⟩ := PB.out.1.wz PB.out.2 h
    have PC := Lib.hid (And.intro TC oC)
    clear h TC oC PB
    go_wp2_with fail
    refine (write_both z (put (put (initial R) a S) a L) vC (0 + cnt q + cnt m) w.heap.size _ (a + (m : Int)) C q f S _ (by rw [put_len, put_len]; exact initial_len _) PC.out.1.mz PC.out.2 PC.out.1.below.size (by unfold cnt; split <;> split <;> omega) HL.out.2 (by omega) H.out.2.2.1.cap (H.out.2.2.1.rd.below PC.out.1.below) (fun ad e h0 => Nat.ne_of_lt (Nat.lt_of_lt_of_le (H.out.2.2.1.block ad e h0) PC.out.1.zw))).mono ?_
    rintro e wD h
    obtain ⟨rfl, vD, TD, _⟩ := PC.out.1.wz PC.out.2 h
    have PD := Lib.hid TD
    clear h TD PC
    obtain ⟨N, hN⟩ : ∃ N, N = 65536 := ⟨_, rfl⟩
    obtain ⟨X, hX⟩ : ∃ X, X = put (initial R) a (L ++ S) := ⟨_, rfl⟩
    obtain ⟨Z, hZ⟩ : ∃ Z, Z = put (put (put (initial R) a S) a L) (a + (m : Int)) S := ⟨_, rfl⟩
    rw [← hX, ← hZ] at PD
    have lX : X.length = 65536 := by rw [hX, put_len]; exact initial_len _
    have lZ : Z.length = 65536 := by rw [hZ, put_len, put_len, put_len]; exact initial_len _
    have eZ : q ≤ m → Z = X := fun hqm => by
      have h1 := HL.out.1
      have h2 := HL.out.2
      rw [hX, hZ, put_put _ _ _ _ (initial_len _) (by omega) (by omega), put_append, h1]
    have E := Lib.hid (And.intro hN (And.intro lX (And.intro lZ eZ)))
    clear hX hZ lX lZ eZ hN e1
    go_wp2_with fail
    refine (bytes_all y X vA N _ E.out.1 E.out.2.1 PD.out.my).mono ?_
    rintro e wE h
    obtain ⟨gE, rfl, _, rE, bE⟩ := h
    have PE := Lib.hid (And.intro (PD.out.step bE) rE)
    clear rE bE PD
    go_wp2_with fail
    refine (bytes_all x X v7 N _ E.out.1 E.out.2.1 PE.out.1.mx).mono ?_
    rintro e wF h
    obtain ⟨gF, rfl, _, rF, bF⟩ := h
    have PF := Lib.hid (And.intro (PE.out.1.step bF) (And.intro (PE.out.2.below bF) rF))
    clear rF bF PE
    have N1 : N ≤ 1000000 := by have := E.out.1; omega
    go_wp2_with fail
    refine (same2_any _ _ _ _ N N X X _ (by rw [E.out.1]; exact E.out.2.1) (by rw [E.out.1]; exact E.out.2.1) N1 N1 PF.out.2.2 PF.out.2.1).mono ?_
    rintro e wG ⟨rfl, bG⟩
    rw [decide_eq_true rfl]
    have PG := Lib.hid (And.intro (PF.out.1.step bG) (PF.out.2.1.below bG))
    clear bG PF
    by_cases hqm : m < q
    · have k1 : (m : Int) < (q : Int) := by omega
      go_wp2
      go_ret
      exact ⟨rfl, PG.out.1.below⟩
    · have k1 : ¬ (m : Int) < (q : Int) := by omega
      go_wp2_with fail
      refine (bytes_all z Z vD N _ E.out.1 E.out.2.2.1 PG.out.1.mz).mono ?_
      rintro e wH h
      obtain ⟨gH, rfl, _, rH, bH⟩ := h
      have PH := Lib.hid (And.intro (PG.out.1.step bH) (And.intro (PG.out.2.below bH) rH))
      clear rH bH PG
      go_wp2_with fail
      refine (same2_any _ _ _ _ N N Z X _ (by rw [E.out.1]; exact E.out.2.2.1) (by rw [E.out.1]; exact E.out.2.1) N1 N1 PH.out.2.2 PH.out.2.1).mono ?_
      rintro e wI ⟨rfl, bI⟩
      rw [decide_eq_true (E.out.2.2.2 (by omega))]
      have PI := Lib.hid (PH.out.1.step bI)
      clear bI PH
      go_wp2
      go_ret
      exact ⟨rfl, PI.out.below⟩
end Go.Proofs.YtllfakimcgbppaaDoor
