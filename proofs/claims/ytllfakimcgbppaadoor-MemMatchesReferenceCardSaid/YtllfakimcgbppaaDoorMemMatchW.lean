/- The walk of MemMatchesReference. -/
import Derived.Test.YtllfakimcgbppaaDoorMemClonesW
namespace Go.Proofs.YtllfakimcgbppaaDoor
open Go.RowKit Num
set_option linter.unusedVariables false

/-- The cells of a list of spans. -/
def pr (rs : List (Int × Int)) : List Value := rs.flatMap fun r => [.int .i64 r.1, .int .i64 r.2]
theorem pr_snoc (rs : List (Int × Int)) (x y : Int) : pr (rs ++ [(x, y)]) = pr rs ++ [.int .i64 x, .int .i64 y] := by simp [pr]
theorem pr_get : ∀ (rs : List (Int × Int)) (k : Nat) (h : k < rs.length), (pr rs)[k * 2]? = some (.int .i64 rs[k].1) ∧ (pr rs)[k * 2 + 1]? = some (.int .i64 rs[k].2)
  | r :: rs, 0, _ => ⟨rfl, rfl⟩
  | r :: rs, k + 1, h => by
    have := pr_get rs k (by simpa using h)
    have e1 : (k + 1) * 2 = k * 2 + 1 + 1 := by omega
    have e2 : pr (r :: rs) = .int .i64 r.1 :: .int .i64 r.2 :: pr rs := by simp [pr]
    rw [e1, e2]
    simpa using this

theorem mem_apart' {w w' : World} {p base k : Nat} {M : List Int} {u v : Value} {ys : List Value} (hq : MemAt p M v w) (hu : w.ownsRow base 41 2 u k ys) (hg : w.grownBy w' u.ownBlock) : MemAt p M v w' :=
  hq.keep (hg.block p hq.lt fun e => own_tag hu hq (by decide) e.symm)

theorem own_form2 {w : World} {base n : Nat} {e : TypeId} {v : Value} {xs : List Value} (h : w.ownsRow base e 2 v n xs) : ∃ A cap, v = .slice A n cap := by
  rcases h.2 with ⟨rfl, rfl⟩ | ⟨g, cap, cur, rfl, _⟩
  · exact ⟨none, 0, rfl⟩
  · exact ⟨_, cap, rfl⟩

/-- A run beside which a list of spans is kept. -/
structure Two (w : World) (p : Nat) (M T : List Int) (v : Value) (n : Nat) (xs : List Value) (g N c : Nat) (u : Value) (n' : Nat) (ys : List Value) (wi : World) : Prop where
  run : Run w p M T v n xs g N c wi
  ul : wi.ownsRow w.heap.size 41 2 u n' ys
  sep : ∀ b, v.ownBlock = some b → u.ownBlock ≠ some b
section
variable {w wi wj : World} {p n n' k g N c : Nat} {M M' T : List Int} {v u : Value} {xs ys zs : List Value} {e : Ending}
theorem Two.step (h : Two w p M T v n xs g N c u n' ys wi) (hb : Below wi.heap.size wi wj) : Two w p M T v n xs g N c u n' ys wj :=
  ⟨h.run.step hb, own_apart (p := p) (g := none) h.ul (Apart.of_below hb) (own_tag h.ul h.run.mem (by decide)) (fun k hk => by cases hk), h.sep⟩
theorem Two.write (h : Two w p M T v n xs g N c u n' ys wi) (hw : Wrote p M' w.heap.size k zs v wi e wj) : e = .returned (.tuple #[]) ∧ ∃ v', Two w p M' T v' k zs g N c u n' ys wj := by
  obtain ⟨he, v', h1, h2, h3⟩ := h.run.write hw
  refine ⟨he, v', h1, own_apart h.ul h2 (own_tag h.ul h.run.mem (by decide)) (fun b hb => h.sep b hb), fun b hb => ?_⟩
  rcases h3 with h3 | ⟨b', h3, hle⟩
  · exact h.sep b (by rw [← h3]; exact hb)
  · intro hu
    rw [h3] at hb
    injection hb with hb
    have := (h.ul.lt b hu).2
    omega
theorem Two.put (h : Two w p M T v n xs g N c u n' ys wi) {T' : List Int} {g' c' : Nat} (hb : Below wi.heap.size wi wj) (ho : wj.ownsRow wi.heap.size 5 1 (.slice (some ⟨g', 0, none⟩) N c') N (T'.map (Value.int .u8))) : Two w p M T' v n xs g' N c' u n' ys wj :=
  ⟨h.run.put hb ho, (h.step hb).ul, h.sep⟩
/-- An append to the list. -/
theorem Two.app (h : Two w p M T v n xs g N c u n' ys wi) {u' : Value} {o : Obj} (ho : wj.ownsRow w.heap.size 41 2 u' k zs) (hg : (wi.alloc o).grownBy wj u.ownBlock) (hat : u'.ownBlock = u.ownBlock ∨ ∃ b, u'.ownBlock = some b ∧ wi.heap.size ≤ b) : Two w p M T v n xs g N c u' k zs wj := by
  have h1 := h.step (below_new wi o)
  have ha : Apart p u.ownBlock (wi.alloc o) wj := Apart.of_grown hg
  have hlog := own_apart h1.run.log ha (own_tag h1.run.log h1.run.mem (by decide)) (fun b hb hv => h.sep b hv hb)
  refine ⟨⟨h1.run.below.trans ⟨hg.os, hg.tape, hg.output, hg.size, fun b hb => hg.block b (Nat.lt_of_lt_of_le hb h1.run.below.size) (fun e => by have := (h1.ul.lt b e.symm).1; omega)⟩, h.run.hp, mem_apart' h1.run.mem h1.ul hg, hlog, ?_⟩, ho, fun b hb hu => ?_⟩
  · refine own_apart h1.run.want ha (own_tag h1.run.want h1.run.mem (by decide)) fun b hb => ?_
    obtain ⟨_, cs, hcs⟩ := own_block h1.ul hb
    exact own_tag h1.run.want hcs (by decide)
  · rcases hat with hat | ⟨b', hat, hle⟩
    · rw [hat] at hu; exact h.sep b hb hu
    · rw [hat] at hu
      injection hu with hu
      have := (h.run.log.lt b hb).2
      omega
end

set_option linter.unusedSimpArgs false in
set_option maxRecDepth 100000 in
set_option maxHeartbeats 16000000 in
theorem memMatchesReference_walk (A : Option Addr) (n c : Nat) (R : List Int) (B : Option Addr) (m d : Nat) (l : List Wr) (a : Int) (t : Int) (w : World) (hA : Arg w A n c R) (hB : ArgW w B m d l) (wa : (Lit.int .i64 a).wf = true) (wt : (Lit.int .u8 t).wf = true) (hF : Laid w) :
    Calls Tryd.prog 3 #[.slice A n c, .slice B m d, .int .i64 a, .int .u8 t] w fun e w' => e = .returned (.bool true) ∧ Below w.heap.size w w' := by
  obtain ⟨a0, a1⟩ := bd_i64 wa
  obtain ⟨t0, t1⟩ := bd_u8 wt
  obtain ⟨tn, ht⟩ : ∃ tn : Nat, t = tn := ⟨t.toNat, by omega⟩
  subst ht
  obtain ⟨i0, hi, hz0, hz1, hz2⟩ := info_parts infoRange
  have HI := Lib.hid (And.intro hi (And.intro hz0 (And.intro hz1 hz2)))
  have n1 := Nat.le_trans hA.cap hA.max
  have m1 := Nat.le_trans hB.cap hB.max
  have H := Lib.hid (And.intro hA (And.intro hB hF))
  clear hA hB hF wa wt hi hz0 hz1 hz2
  go_enter Tryd.func3, Tryd.ntmps3
  go_wp2_with fail
  refine (awake5 _ H.out.2.2).mono ?_
  rintro e w1 ⟨rfl, b1⟩
  have B1 := Lib.hid b1
  clear b1
  go_wp2_with fail
  refine (few_any A n c B m d l _ n1 m1 H.out.2.1.len (H.out.2.1.rd.below B1.out)).mono ?_
  rintro e w' h
  obtain ⟨f1, rfl, hf1, rfl⟩ := h
  have Hf1 := Lib.hid hf1
  clear hf1 n1 m1
  have again : ∀ x : Bool, x = false → True := fun _ _ => trivial
  cases f1
  · go_wp2_with fail
    refine (awake5 _ (H.out.2.2.below B1.out H.out.2.2.lt)).mono ?_
    rintro e w3 ⟨rfl, b3⟩
    have B3 := Lib.hid (B1.out.trans (b3.mono B1.out.size))
    clear b3
    go_wp2
    go_ret
    exact ⟨rfl, B3.out⟩
  by_cases ha : -1000000 ≤ a ∧ a ≤ 1000000
  case neg =>
    have ha2 : a < -1000000 ∨ (-1000000 ≤ a ∧ 1000000 < a) := by omega
    clear ha
    rcases ha2 with ha2 | ⟨ha2, ha3⟩
    all_goals
      go_wp2_with fail
      refine (awake5 _ (H.out.2.2.below B1.out H.out.2.2.lt)).mono ?_
      rintro e w3 ⟨rfl, b3⟩
      have B3 := Lib.hid (B1.out.trans (b3.mono B1.out.size))
      clear b3
      go_wp2
      go_ret
      exact ⟨rfl, B3.out⟩
  obtain ⟨s2, s3⟩ := ha
  obtain ⟨n2, l2, small⟩ := Hf1.out (by simp)
  have SM := Lib.hid small
  have m2 : m ≤ 20 := by rw [← H.out.2.1.len]; exact l2
  have g2 : ¬ a < -1000000 := by omega
  have g3 : ¬ 1000000 < a := by omega
  clear Hf1 small l2 again
  go_wp2_with fail
  refine (new_yes A n c R _ (by omega) H.out.1.len (H.out.1.rd.below B1.out) (H.out.2.2.below B1.out H.out.2.2.lt)).mono ?_
  rintro e w2 h
  obtain ⟨p, rfl, hp, m2', b2⟩ := h
  have P2 := Lib.hid (And.intro (B1.out.trans (b2.mono B1.out.size)) (And.intro m2' (Nat.le_trans B1.out.size hp)))
  clear m2' b2 hp B1
  go_wp2_with fail
  refine (rnew_any A n c R _ H.out.1.len (by omega) (H.out.1.rd.below P2.out.1)).mono ?_
  rintro e w3 h
  obtain ⟨N, hN⟩ : ∃ N, N = 65536 := ⟨_, rfl⟩
  obtain ⟨g, cw, rfl, _, _, o3, b3⟩ := h.bytes (n := N) (by rw [initial_len, hN]) (by omega)
  have R3 : Run w p (initial R) (initial R) (.slice none 0 0) 0 [] g N cw w3 :=
    ⟨P2.out.1.trans (b3.mono P2.out.1.size), P2.out.2.2, P2.out.2.1.keep (b3.block p P2.out.2.1.lt), World.ownsRow_nil _ _ _ _, own_mono o3 P2.out.1.size⟩
  have N0 := Lib.hid hN
  have N1 : N ≤ 1000000 := by omega
  have P3 := Lib.hid R3
  clear o3 b3 R3 P2 hN h
  go_wp2_with fail
  refine (bytes_all p (initial R) _ N _ N0.out (initial_len _) P3.out.mem).mono ?_
  rintro e w4 h
  obtain ⟨g4, rfl, _, r4, b4⟩ := h
  have P4 := Lib.hid (And.intro (P3.out.step b4) r4)
  clear r4 b4 P3
  go_wp2_with fail
  refine (same2_any _ _ _ _ N N (initial R) (initial R) _ (by rw [N0.out]; exact initial_len _) (by rw [N0.out]; exact initial_len _) N1 N1 P4.out.2 (own_rd P4.out.1.want)).mono ?_
  rintro e w5 ⟨rfl, b5⟩
  rw [decide_eq_true rfl]
  have P5 := Lib.hid (P4.out.1.step b5)
  clear b5 P4
  go_wp2_with fail
  refine (dirty_any p _ none 0 0 _ (initial_len _) P5.out.mem).mono ?_
  rintro e w6 h
  obtain ⟨rfl, m6, a6⟩ := h
  have T6 : Two w p (initial R) (initial R) (.slice none 0 0) 0 [] g N cw (.slice none 0 0) 0 [] w6 :=
    ⟨⟨P5.out.below.trans ((a6 none).below P5.out.below.size P5.out.hp (fun k hk => by cases hk)), P5.out.hp, m6, World.ownsRow_nil _ _ _ _, own_apart P5.out.want (a6 none) (own_tag P5.out.want P5.out.mem (by decide)) (fun k hk => by cases hk)⟩, World.ownsRow_nil _ _ _ _, fun b hb => by cases hb⟩
  have P6 := Lib.hid T6
  clear m6 a6 T6 P5
  go_wp2_with fail
  go_loopw [11, 12, 13] (fun o u i wr => ∃ (k g cw : Nat) (v : Value) (rs : List (Int × Int)), k ≤ m ∧ i = .int .i64 k ∧ o = .slice (some ⟨g, 0, none⟩) N cw ∧ rs.length ≤ k ∧ Two w p (puts (initial R) (l.take k)) (puts (initial R) (l.take k)) v rs.length (pr rs) g N cw u rs.length (pr rs) wr) (fun _ _ i _ => m - (intOf i).toNat)
  case atStart => exact ⟨0, g, cw, .slice none 0 0, [], by omega, rfl, rfl, by simp, by rw [List.take_zero, puts_nil]; exact P6.out⟩
  case round =>
    clear P6
    obtain ⟨j, g, cw, v, rs, hj, rfl, rfl, hnl, hr⟩ := hrel
    have PR := Lib.hid hr
    clear hr
    by_cases hlt : j < m
    · have hjl : j < l.length := by rw [H.out.2.1.len]; exact hlt
      obtain ⟨ad, rfl, hb, c0, c1, ok⟩ := H.out.2.1.rd.at_ hjl
      obtain ⟨t1, t2, t3⟩ := SM.out j hjl
      have ht := take_wr hjl
      rw [← add_add, add_one] at c1
      obtain ⟨y, hy⟩ : ∃ y, y = l[j] := ⟨_, rfl⟩
      rw [← hy] at c0 c1 ok t1 t2 t3 ht
      have OK := Lib.hid (And.intro ok (And.intro ht (And.intro c0 c1)))
      clear ok ht hy c0 c1
      have j1 : (j : Int) < (m : Int) := by omega
      have j0 : 0 ≤ (j : Int) := by omega
      go_wp2
      refine tail_region 11 (by kernel_rfl) (by kernel_rfl) ?_
      intro wd hwd
      have RD := PR.out.step (wj := wd) (by rw [hwd]; exact (Below.refl _ _).drew)
      have d0 := (RD.run.below.cell (p := ad.add (j * 2)) (by rw [add_block]; exact hb)).trans OK.out.2.2.1
      have d1 := (RD.run.below.cell (p := ⟨(ad.add (j * 2)).block, (ad.add (j * 2)).off + 1, none⟩) (by show (ad.add (j * 2)).block < _; rw [add_block]; exact hb)).trans OK.out.2.2.2
      have DD := Lib.hid RD
      clear hwd RD PR
      simp only [List.take_succ_cons, List.take_zero, List.drop_succ_cons, List.drop_zero]
      repeat still_step
      refine wpStill_nil ?_
      go_wp2_with fail
      refine (write_both p (puts (initial R) (l.take j)) v rs.length w.heap.size (pr rs) y.a y.A y.n y.c y.b _ (by rw [puts_len]; exact initial_len _) DD.out.run.mem DD.out.run.log DD.out.run.below.size (by omega) OK.out.1.len (by omega) OK.out.1.cap (OK.out.1.rd.below DD.out.run.below) (fun a' e hn => Nat.ne_of_lt (Nat.lt_of_lt_of_le (OK.out.1.block e hn) DD.out.run.hp))).mono ?_
      rintro e w7 h
      obtain ⟨rfl, v7, R7⟩ := DD.out.write h
      have P7 := Lib.hid R7
      clear h R7 DD d0 d1
      go_wp2_with fail
      refine tail_region 11 (by kernel_rfl) (by kernel_rfl) ?_
      intro we hwe
      have RE := P7.out.step (wj := we) (by rw [hwe]; exact (Below.refl _ _).drew)
      have d0 := (RE.run.below.cell (p := ad.add (j * 2)) (by rw [add_block]; exact hb)).trans OK.out.2.2.1
      have d1 := (RE.run.below.cell (p := ⟨(ad.add (j * 2)).block, (ad.add (j * 2)).off + 1, none⟩) (by show (ad.add (j * 2)).block < _; rw [add_block]; exact hb)).trans OK.out.2.2.2
      have DE := Lib.hid RE
      clear hwe RE P7
      simp only [List.take_succ_cons, List.take_zero, List.drop_succ_cons, List.drop_zero]
      repeat still_step
      refine wpStill_nil ?_
      go_wp2_with fail
      refine (rput_any ⟨g, 0, none⟩ N cw (puts (initial R) (l.take j)) y.a y.A y.n y.c y.b _ N0.out (by rw [puts_len, N0.out]; exact initial_len _) DE.out.run.at_ (by omega) (by omega) OK.out.1.len (by omega) (OK.out.1.rd.below DE.out.run.below)).mono ?_
      rintro e w8 h
      obtain ⟨g8, c8, rfl, _, _, o8, b8⟩ := h.bytes (n := N) (by rw [put_len, puts_len, N0.out]; exact initial_len _) (by have := N0.out; omega)
      have R8 := DE.out.put b8 o8
      have ep : put (puts (initial R) (l.take j)) y.a y.b = puts (initial R) (l.take (j + 1)) := by rw [OK.out.2.1, puts_snoc]
      rw [ep] at R8
      have d0' := (R8.run.below.cell (p := ad.add (j * 2)) (by rw [add_block]; exact hb)).trans OK.out.2.2.1
      have d1' := (R8.run.below.cell (p := ⟨(ad.add (j * 2)).block, (ad.add (j * 2)).off + 1, none⟩) (by show (ad.add (j * 2)).block < _; rw [add_block]; exact hb)).trans OK.out.2.2.2
      have P8 := Lib.hid R8
      clear h o8 b8 R8 DE ep d0 d1
      by_cases hy0 : y.n = 0
      · have k0 : ¬ (0 : Int) < (y.n : Int) := by omega
        go_wp2
        go_roundw
        case rel =>
          refine ⟨j + 1, g8, c8, v7, rs, by omega, by go_num, rfl, by omega, ?_⟩
          have h := P8.out
          simpa [cnt, entry, hy0] using h
        case measure => simp [intOf]; omega
      · have k0 : (0 : Int) < (y.n : Int) := by omega
        obtain ⟨ka, hka⟩ : ∃ ka : Nat, y.a % 65536 = ka := ⟨(y.a % 65536).toNat, by omega⟩
        have KA := Lib.hid hka
        clear hka
        go_wp2
        refine wp_region_mix (C := fun w' => ∃ x : Calm w, w' = x.w) [([0, 1, 2, 3, 4, 5, 7, 8, 9, 10, 11, 12], 6), ([13], 14), ([], 15)] [16] (by kernel_rfl) (by kernel_rfl) (fun _ _ d _ _ h => by cases d <;> exact h) ⟨⟨w8.drew, P8.out.run.below.drew⟩, rfl⟩ ?_
        intro wd hwd
        have RD := P8.out.step (wj := wd) (by rw [hwd]; exact (Below.refl _ _).drew)
        have PD := Lib.hid RD
        clear hwd RD P8 d0' d1'
        have kc0 : ∀ x : Calm w, x.w.cell? (ad.add (j * 2)) = some (.int .i64 y.a) := fun x => (x.below.cell (p := ad.add (j * 2)) (by rw [add_block]; exact hb)).trans OK.out.2.2.1
        have kc1 : ∀ x : Calm w, x.w.cell? ⟨(ad.add (j * 2)).block, (ad.add (j * 2)).off + 1, none⟩ = some (.slice y.A y.n y.c) := fun x => (x.below.cell (p := ⟨(ad.add (j * 2)).block, (ad.add (j * 2)).off + 1, none⟩) (by show (ad.add (j * 2)).block < _; rw [add_block]; exact hb)).trans OK.out.2.2.2
        refine mix_run (by simp only [opsAt, List.getElem?_toArray, List.getElem?_cons_succ, List.getElem?_cons_zero]; rfl) (by rfl) ?_
        repeat (go_big_quiet_step (fail))
        refine wpQuiet_nil ?_
        refine mix_call (by rfl) ?_
        intro K hK
        go_wp2_with fail
        refine (mmod_at _ ka _ KA.out).mono ?_
        rintro e w' ⟨rfl, rfl⟩
        simp only []
        refine hK _ _ ⟨⟨wd, PD.out.run.below⟩, rfl⟩ ?_
        clear hK K
        refine mix_run (by simp only [opsAt, List.getElem?_toArray, List.getElem?_cons_succ, List.getElem?_cons_zero]; rfl) (by rfl) ?_
        repeat (go_big_quiet_step (fail))
        refine wpQuiet_nil ?_
        refine mix_call (by rfl) ?_
        intro K hK
        go_wp2_with fail
        refine hK _ _ ⟨⟨_, PD.out.run.below.alloc PD.out.run.below.size (.cells #[.int .i64 ka, .int .i64 y.n] 41)⟩, rfl⟩ ?_
        clear hK K
        refine mix_run (by simp only [opsAt, List.getElem?_toArray, List.getElem?_cons_succ, List.getElem?_cons_zero]; rfl) (by rfl) ?_
        refine wpQuiet_nil ?_
        refine mix_call (by rfl) ?_
        intro K hK
        refine wp_append_lies _ (.tmp 94) (.tmp 108) 33 (by rfl) w.heap.size 41 i0 _ 2 16 Tryd.underlying33 HI.out.1 HI.out.2.1 HI.out.2.2.1 HI.out.2.2.2 rfl (by omega) _ rs.length (pr rs) (by rfl) (PD.out.ul.alloc _) ⟨wd.heap.size, 0, none⟩ 1 1 [.int .i64 ka, .int .i64 y.n] (by rfl) (by rfl) (news_two wd _ _ _) (by simp [Value.oneCell']) (by omega) (by unfold maxLen; omega) (by omega) (by have := PD.out.run.below.size; simp; omega) _ rfl ?_
        intro gg cap w9 o9 hg9 hat9 hlt9
        have R9 := PD.out.app o9 hg9 (by
          rcases hat9 with h | h
          · exact .inl h.symm
          · exact .inr ⟨gg, rfl, by rw [h]; simp⟩)
        have P9 := Lib.hid R9
        clear R9 o9 hg9 hat9 hlt9 PD
        show K (Act.put _ (some 109) _) w9
        simp only [Act.put, List.setIfInBounds_toArray, List.set_cons_zero, List.set_cons_succ]
        refine hK _ _ ⟨⟨w9, P9.out.run.below⟩, rfl⟩ ?_
        clear hK K kc0 kc1
        refine mix_last (by simp only [opsAt, List.getElem?_toArray, List.getElem?_cons_succ, List.getElem?_cons_zero]; rfl) ?_
        repeat (go_big_quiet_step (fail))
        refine wpQuiet_nil ?_
        go_wp2
        go_roundw
        case rel =>
          refine ⟨j + 1, g8, c8, v7, rs ++ [((ka : Int), (y.n : Int))], by omega, by go_num, rfl, by simp; omega, ?_⟩
          have h := P9.out
          rw [List.length_append, pr_snoc]
          simpa [cnt, entry, hy0, KA.out] using h
        case measure => simp [intOf]; omega
    · have hjm : j = m := by omega
      subst hjm
      rw [List.take_of_length_le (by rw [H.out.2.1.len]; omega)] at PR
      obtain ⟨X, hX⟩ : ∃ X, X = puts (initial R) l := ⟨_, rfl⟩
      rw [← hX] at PR
      have lX : X.length = 65536 := by rw [hX, puts_len]; exact initial_len _
      have EX := Lib.hid lX
      clear hX lX
      obtain ⟨Av, cv, ev⟩ := own_form2 PR.out.run.log
      obtain ⟨Au, cu, eu⟩ := own_form2 PR.out.ul
      subst ev
      subst eu
      go_wp2_with fail
      refine (dirty_any p X Av rs.length cv _ EX.out PR.out.run.mem).mono ?_
      rintro e wA h
      obtain ⟨rfl, mA, aA⟩ := h
      have RA : Run w p X X (.slice none 0 0) 0 [] g N cw wA :=
        ⟨PR.out.run.below.trans ((aA none).below PR.out.run.below.size PR.out.run.hp (fun k hk => by cases hk)), PR.out.run.hp, mA, World.ownsRow_nil _ _ _ _, own_apart PR.out.run.want (aA none) (own_tag PR.out.run.want PR.out.run.mem (by decide)) (fun k hk => by cases hk)⟩
      have oA := own_apart PR.out.run.log (aA none) (own_tag PR.out.run.log PR.out.run.mem (by decide)) (fun k hk => by cases hk)
      have uA := own_apart PR.out.ul (aA none) (own_tag PR.out.ul PR.out.run.mem (by decide)) (fun k hk => by cases hk)
      have PA := Lib.hid (And.intro RA (And.intro oA uA))
      clear mA aA RA oA uA PR
      have hrs : rs.length ≤ 20 := by omega
      obtain ⟨q, hq⟩ : ∃ q, q = rs.length := ⟨_, rfl⟩
      rw [← hq] at PA hrs hnl ⊢
      have HQ := Lib.hid hq
      clear hq
      go_wp2
      go_loopw [15] (fun i wr => ∃ k : Nat, k ≤ q ∧ i = .int .i64 k ∧ Below wA.heap.size wA wr) (fun i _ => q - (intOf i).toNat)
      case atStart => exact ⟨0, by omega, rfl, Below.refl _ _⟩
      case round =>
        obtain ⟨k, hk, rfl, hbk⟩ := hrel
        have BK := Lib.hid hbk
        clear hbk
        by_cases hlt : k < q
        · have h0 : 0 < q := by omega
          obtain ⟨gv, cap, he, hgv, hlv⟩ := PA.out.2.1.form h0
          injection he with eA _ ec
          subst eA
          subst ec
          obtain ⟨gu, cap', he', hgu, hlu⟩ := PA.out.2.2.form h0
          injection he' with eA' _ ec'
          subst eA'
          subst ec'
          have hkr : k < rs.length := by have := HQ.out; omega
          obtain ⟨p0, p1⟩ := pr_get rs k hkr
          have c0 := (BK.out.cell (p := ⟨gv, k * 2, none⟩) hlv).trans ((PA.out.2.1.cellAt (k * 2) (by omega)).trans p0)
          have c1 := (BK.out.cell (p := ⟨gv, k * 2 + 1, none⟩) hlv).trans ((PA.out.2.1.cellAt (k * 2 + 1) (by omega)).trans p1)
          have e0 := (BK.out.cell (p := ⟨gu, k * 2, none⟩) hlu).trans ((PA.out.2.2.cellAt (k * 2) (by omega)).trans p0)
          have e1 := (BK.out.cell (p := ⟨gu, k * 2 + 1, none⟩) hlu).trans ((PA.out.2.2.cellAt (k * 2 + 1) (by omega)).trans p1)
          obtain ⟨x, hx⟩ : ∃ x, x = rs[k].1 := ⟨_, rfl⟩
          obtain ⟨y, hy⟩ : ∃ y, y = rs[k].2 := ⟨_, rfl⟩
          rw [← hx] at c0 e0
          rw [← hy] at c1 e1
          have k1 : (k : Int) < (q : Int) := by omega
          have k0 : 0 ≤ (k : Int) := by omega
          clear hx hy p0 p1
          go_wp2
          go_quiet (fail)
          go_wp2
          go_roundw
          case rel => exact ⟨k + 1, by omega, by go_num, BK.out.trans ⟨rfl, rfl, rfl, Nat.le_refl _, fun _ _ => rfl⟩⟩
          case measure => simp [intOf]; omega
        · have hkq : k = q := by omega
          subst hkq
          have PB := Lib.hid (PA.out.1.step BK.out)
          clear PA BK
          obtain ⟨ka, hka⟩ : ∃ ka : Nat, a % 65536 = ka := ⟨(a % 65536).toNat, by omega⟩
          have hk65 : ka < 65536 := by omega
          obtain ⟨y, hy⟩ : ∃ y, X[ka]? = some y := ⟨_, List.getElem?_eq_getElem (by rw [EX.out]; exact hk65)⟩
          have KA := Lib.hid (And.intro hka hy)
          have kN : (ka : Int) < (N : Int) := by have := N0.out; omega
          have k00 : 0 ≤ (ka : Int) := by omega
          clear hka hy
          go_wp2_with fail
          refine (bytes_all p X _ N _ N0.out EX.out PB.out.mem).mono ?_
          rintro e wC h
          obtain ⟨gC, rfl, _, rC, bC⟩ := h
          have PC := Lib.hid (And.intro (PB.out.step bC) rC)
          clear rC bC PB
          go_wp2_with fail
          refine (same2_any _ _ _ _ N N X X _ (by rw [N0.out]; exact EX.out) (by rw [N0.out]; exact EX.out) N1 N1 PC.out.2 (own_rd PC.out.1.want)).mono ?_
          rintro e wD ⟨rfl, bD⟩
          rw [decide_eq_true rfl]
          have PD := Lib.hid (PC.out.1.step bD)
          clear bD PC
          go_wp2_with fail
          refine (bytes_any p X _ a ka tn _ EX.out PD.out.mem KA.out.1 (by omega)).mono ?_
          rintro e wE h
          obtain ⟨gE, rfl, _, rE, bE⟩ := h
          have PE := Lib.hid (And.intro (PD.out.step bE) rE)
          clear rE bE PD
          go_wp2_with fail
          refine (rbytes_any ⟨g, 0, none⟩ N cw X a tn _ N0.out (by rw [N0.out]; exact EX.out) PE.out.1.at_ (by omega) (by omega) (by omega)).mono ?_
          rintro e wF h
          obtain ⟨⟨AF, cF, rfl, rF⟩, bF⟩ := h
          have PF := Lib.hid (And.intro (PE.out.1.step bF) (And.intro (PE.out.2.below bF) rF))
          clear rF bF PE
          go_wp2_with fail
          refine (same2_any _ _ _ _ tn tn (seg X a tn) (seg X a tn) _ (seg_len _ _ _) (seg_len _ _ _) (by omega) (by omega) PF.out.2.1 PF.out.2.2).mono ?_
          rintro e wG ⟨rfl, bG⟩
          rw [decide_eq_true rfl]
          have PG := Lib.hid (PF.out.1.step bG)
          clear bG PF
          go_wp2_with fail
          refine (read_below p X _ a y ka _ EX.out PG.out.mem KA.out.1 KA.out.2).mono ?_
          rintro e wH ⟨rfl, bH⟩
          have PH := Lib.hid (PG.out.step bH)
          clear bH PG
          go_wp2_with fail
          refine (mmod_at _ ka _ KA.out.1).mono ?_
          rintro e w' ⟨rfl, rfl⟩
          have hc : wH.cell? ⟨g, ka, none⟩ = some (.int .u8 y) := by
            have h := PH.out.at_.2 ka (by rw [EX.out]; exact hk65)
            rw [add_pl, Nat.zero_add] at h
            rw [h]
            have h2 := KA.out.2
            rw [List.getElem?_eq_getElem (by rw [EX.out]; exact hk65)] at h2
            injection h2 with h2
            rw [h2]
          go_wp2_with fail
          refine (dirty_any p X none 0 0 _ EX.out PH.out.mem).mono ?_
          rintro e wI h
          obtain ⟨rfl, mI, aI⟩ := h
          have PI := Lib.hid (PH.out.below.trans ((aI none).below PH.out.below.size PH.out.hp (fun k hk => by cases hk)))
          clear mI aI PH hc
          go_wp2
          go_ret
          exact ⟨rfl, PI.out⟩
end Go.Proofs.YtllfakimcgbppaaDoor
