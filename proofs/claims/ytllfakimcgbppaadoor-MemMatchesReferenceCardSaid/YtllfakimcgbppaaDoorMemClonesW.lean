/- The walk of MemClones. -/
import Derived.Test.YtllfakimcgbppaaDoorMemOpen
import Derived.Test.YtllfakimcgbppaaDoorMemReadsW
import Derived.Test.YtllfakimcgbppaaDoorAppRd
namespace Go.Proofs.YtllfakimcgbppaaDoor
open Go.RowKit Num
set_option linter.unusedVariables false

/-- The memory behind the first writes. -/
def puts (M : List Int) (l : List Wr) : List Int := l.foldl (fun M x => put M x.a x.b) M
theorem puts_nil (M : List Int) : puts M [] = M := rfl
theorem puts_snoc (M : List Int) (l : List Wr) (x : Wr) : puts M (l ++ [x]) = put (puts M l) x.a x.b := by simp [puts]
theorem puts_len (l : List Wr) : ∀ M : List Int, (puts M l).length = M.length := by
  induction l with
  | nil => intro M; rfl
  | cons x l ih => intro M; show (puts (put M x.a x.b) l).length = _; rw [ih, put_len]
theorem Wr.ok.block {x : Wr} {w : World} (h : x.ok w) {ad : Addr} (e : x.A = some ad) (hn : 0 < x.n) : ad.block < w.heap.size :=
  h.rd.block_lt' (by intro h0; have := h.len; rw [h0] at this; simp at this; omega) e
theorem take_wr {l : List Wr} {k : Nat} (h : k < l.length) : l.take (k + 1) = l.take k ++ [l[k]] := by simp

/-- A memory and what it ought to be, behind some writes. -/
structure Run (w : World) (p : Nat) (M T : List Int) (v : Value) (n : Nat) (xs : List Value) (g N c : Nat) (wi : World) : Prop where
  below : Below w.heap.size w wi
  hp : w.heap.size ≤ p
  mem : MemAt p M v wi
  log : wi.ownsRow w.heap.size 41 2 v n xs
  want : wi.ownsRow w.heap.size 5 1 (.slice (some ⟨g, 0, none⟩) N c) N (T.map (Value.int .u8))
section
variable {w wi wj : World} {p n n' g N c : Nat} {M M' T : List Int} {v : Value} {xs ys : List Value} {e : Ending}
theorem Run.step (h : Run w p M T v n xs g N c wi) (hb : Below wi.heap.size wi wj) : Run w p M T v n xs g N c wj :=
  ⟨h.below.trans (hb.mono h.below.size), h.hp, h.mem.keep (hb.block p h.mem.lt), own_apart (p := p) (g := none) h.log (Apart.of_below hb) (own_tag h.log h.mem (by decide)) (fun k hk => by cases hk),
   own_apart (p := p) (g := none) h.want (Apart.of_below hb) (own_tag h.want h.mem (by decide)) (fun k hk => by cases hk)⟩
theorem Run.write (h : Run w p M T v n xs g N c wi) (hw : Wrote p M' w.heap.size n' ys v wi e wj) : e = .returned (.tuple #[]) ∧ ∃ v', Run w p M' T v' n' ys g N c wj ∧ Apart p v.ownBlock wi wj ∧ (v'.ownBlock = v.ownBlock ∨ ∃ b, v'.ownBlock = some b ∧ wi.heap.size ≤ b) := by
  obtain ⟨he, v', h1, h2, h3, h4⟩ := hw
  refine ⟨he, v', ⟨h.below.trans (h3.below h.below.size h.hp fun b hb => (h.log.lt b hb).1), h.hp, h1, h2, own_apart h.want h3 (own_tag h.want h.mem (by decide)) fun b hb => ?_⟩, h3, h4⟩
  obtain ⟨_, cs, hcs⟩ := own_block h.log hb
  exact own_tag h.want hcs (by decide)
theorem Run.apart {z : Nat} {X : List Int} {u : Value} (h : Run w p M T v n xs g N c wi) (hz : MemAt z X u wi) (hw : w.heap.size ≤ z) (hne : z ≠ p) (ha : Apart z none wi wj) : Run w p M T v n xs g N c wj :=
  ⟨h.below.trans (ha.below h.below.size hw fun k hk => by cases hk), h.hp, h.mem.keep (ha.block p h.mem.lt (fun e => hne e.symm) (by simp)), own_apart h.log ha (own_tag h.log hz (by decide)) (fun k hk => by cases hk),
   own_apart h.want ha (own_tag h.want hz (by decide)) (fun k hk => by cases hk)⟩
theorem Run.put (h : Run w p M T v n xs g N c wi) {T' : List Int} {g' c' : Nat} (hb : Below wi.heap.size wi wj) (ho : wj.ownsRow wi.heap.size 5 1 (.slice (some ⟨g', 0, none⟩) N c') N (T'.map (Value.int .u8))) : Run w p M T' v n xs g' N c' wj :=
  ⟨(h.step hb).below, h.hp, (h.step hb).mem, (h.step hb).log, own_mono ho h.below.size⟩
theorem Run.at_ (h : Run w p M T v n xs g N c wi) : (⟨g, 0, none⟩ : Addr).block < wi.heap.size ∧ ∀ j (hj : j < T.length), wi.cell? ((⟨g, 0, none⟩ : Addr).add j) = some (.int .u8 T[j]) :=
  ⟨(h.want.lt g rfl).2, own_at h.want⟩
end

/-- A row of n bytes, whatever they are. -/
def Rowed (base : Nat) (v : Value) (n : Nat) (w : World) : Prop := ∃ T : List Int, T.length = n ∧ w.ownsRow base 5 1 v n (T.map (Value.int .u8))
theorem Rowed.stored {base n c g : Nat} {w : World} (h : Rowed base (.slice (some ⟨g, 0, none⟩) n c) n w) (k : Nat) (x : Int) : Rowed base (.slice (some ⟨g, 0, none⟩) n c) n (w.setCell ⟨g, k, none⟩ (.int .u8 x)) := by
  obtain ⟨T, hT, ho⟩ := h
  refine ⟨T.set k x, by rw [List.length_set]; exact hT, ?_⟩
  rw [List.map_set]
  exact (ho.stored k _).1

set_option linter.unusedSimpArgs false in
set_option maxRecDepth 100000 in
set_option maxHeartbeats 8000000 in
theorem memClones_walk (A : Option Addr) (n c : Nat) (R : List Int) (B : Option Addr) (m d : Nat) (l : List Wr) (a : Int) (C : Option Addr) (q f : Nat) (S : List Int) (w : World) (hA : Arg w A n c R) (hB : ArgW w B m d l) (wa : (Lit.int .i64 a).wf = true) (hC : Arg w C q f S) (hF : Laid w) :
    Calls Tryd.prog 6 #[.slice A n c, .slice B m d, .int .i64 a, .slice C q f] w fun e w' => e = .returned (.bool true) ∧ Below w.heap.size w w' := by
  obtain ⟨a0, a1⟩ := bd_i64 wa
  have n1 := Nat.le_trans hA.cap hA.max
  have m1 := Nat.le_trans hB.cap hB.max
  have H := Lib.hid (And.intro hA (And.intro hB (And.intro hC hF)))
  clear hA hB hC hF wa
  go_enter Tryd.func6, Tryd.ntmps6
  go_wp2_with fail
  refine (awake5 _ H.out.2.2.2).mono ?_
  rintro e w1 ⟨rfl, b1⟩
  have B1 := Lib.hid b1
  clear b1
  go_wp2_with fail
  refine (few_any A n c B m d l _ n1 m1 H.out.2.1.len (H.out.2.1.rd.below B1.out)).mono ?_
  rintro e w' h
  obtain ⟨f1, rfl, hf1, rfl⟩ := h
  have Hf1 := Lib.hid hf1
  clear hf1 n1 m1
  cases f1
  · go_wp2_with fail
    refine (awake5 _ (H.out.2.2.2.below B1.out H.out.2.2.2.lt)).mono ?_
    rintro e w3 ⟨rfl, b3⟩
    have B3 := Lib.hid (B1.out.trans (b3.mono B1.out.size))
    clear b3
    go_wp2
    go_ret
    exact ⟨rfl, B3.out⟩
  go_wp2_with fail
  refine (few_any none 0 0 _ 1 1 [⟨a, C, q, f, S⟩] _ (by unfold maxLen; omega) (by unfold maxLen; omega) rfl (wr_new w1 a C q f S (H.out.2.2.1.below B1.out) a0 a1 37)).mono ?_
  rintro e w2 h
  obtain ⟨f2, rfl, hf2, rfl⟩ := h
  have B2 := Lib.hid (B1.out.trans ((below_new w1 (.cells #[.int .i64 a, .slice C q f] 37)).mono B1.out.size))
  generalize w1.alloc (.cells #[.int .i64 a, .slice C q f] 37) = w2 at *
  have Hf2 := Lib.hid hf2
  clear hf2 B1
  cases f2
  · go_wp2_with fail
    refine (awake5 _ (H.out.2.2.2.below B2.out H.out.2.2.2.lt)).mono ?_
    rintro e w3 ⟨rfl, b3⟩
    have B3 := Lib.hid (B2.out.trans (b3.mono B2.out.size))
    clear b3
    go_wp2
    go_ret
    exact ⟨rfl, B3.out⟩
  obtain ⟨n2, l2, small⟩ := Hf1.out (by simp)
  obtain ⟨_, _, f3⟩ := Hf2.out (by simp)
  obtain ⟨s1, s2, s3⟩ := f3 0 (by simp)
  simp only [List.getElem_cons_zero] at s1 s2 s3
  have SM := Lib.hid small
  have m2 : m ≤ 20 := by rw [← H.out.2.1.len]; exact l2
  clear Hf1 Hf2 f3 small l2
  have hown0 : (w2.alloc (.cells #[] 5)).ownsRow w2.heap.size 5 1 (.slice (some ⟨w2.heap.size, 0, none⟩) 0 0) 0 (([] : List Int).map (Value.int .u8)) := World.ownsRow_made w2 #[] 0 (Nat.le_refl _) (by unfold maxLen; omega) rfl
  have Q := Lib.hid (And.intro hown0 (B2.out.trans ((below_new w2 (.cells #[] 5)).mono B2.out.size)))
  clear hown0
  go_wp2_with ((at_builtin; refine wpList_append_rd rfl _ _ rfl w2.heap.size _ 0 [] rfl Q.out.1 A n c R rfl (H.out.1.rd.below Q.out.2) H.out.1.len (by omega) (by simp) ?_; intro v3 w3 o3 g3))
  have b3 : Below w2.heap.size w2 w3 := (below_new w2 _).grown g3 (by simp) fun j ej => (Q.out.1.lt j ej).1
  rw [List.nil_append, Nat.zero_add] at o3
  have P3 := Lib.hid (And.intro (B2.out.trans (b3.mono B2.out.size)) (own_mono o3 B2.out.size))
  clear o3 b3 g3 Q B2
  obtain ⟨A3, c3, e3⟩ := own_form P3.out.2
  subst e3
  refine (new_yes A3 n c3 R _ (by omega) H.out.1.len (own_rd P3.out.2) (H.out.2.2.2.below P3.out.1 H.out.2.2.2.lt)).mono ?_
  rintro e w4 h
  obtain ⟨p, rfl, hp, m4, b4⟩ := h
  have o4 : w4.ownsRow w.heap.size 5 1 (.slice A3 n c3) n (R.map (Value.int .u8)) := own_apart (p := w3.heap.size) (g := none) P3.out.2 (Apart.of_below b4) (fun h => by have := (P3.out.2.lt _ h).2; omega) (fun k hk => by cases hk)
  have P4 := Lib.hid (And.intro (P3.out.1.trans (b4.mono P3.out.1.size)) (And.intro (Nat.le_trans P3.out.1.size hp) (And.intro m4 o4)))
  clear o4 m4 b4 hp P3
  go_wp2
  go_loopw [12] (fun i wr => ∃ k : Nat, k ≤ n ∧ i = .int .i64 k ∧ Rowed w.heap.size (.slice A3 n c3) n wr ∧ MemAt p (initial R) (.slice none 0 0) wr ∧ Below w.heap.size w wr) (fun i _ => n - (intOf i).toNat)
  case atStart => exact ⟨0, Nat.zero_le _, rfl, ⟨R, H.out.1.len, P4.out.2.2.2⟩, P4.out.2.2.1, P4.out.1⟩
  case round =>
    obtain ⟨k, hk, rfl, ⟨T, hT, hown⟩, hm, hb⟩ := hrel
    have PP := Lib.hid (And.intro hT (And.intro hown (And.intro hm hb)))
    have hpw := P4.out.2.1
    clear hT hown hm hb P4
    by_cases hlt : k < n
    · have h0 : 0 < n := by omega
      obtain ⟨g3, cap, he, hg3, hl3⟩ := PP.out.2.1.form h0
      injection he with eA _ ec
      subst eA
      subst ec
      have hkT : k < T.length := by rw [PP.out.1]; exact hlt
      have cc : wr.cell? ⟨g3, k, none⟩ = some (.int .u8 T[k]) := by
        have := own_at PP.out.2.1 k hkT
        rwa [add_pl, Nat.zero_add] at this
      have cf := PP.out.2.1.frozenAt k
      have k1 : (k : Int) < (n : Int) := by omega
      have hne : p ≠ g3 := fun e => own_tag PP.out.2.1 PP.out.2.2.1 (by decide) (by rw [← e]; rfl)
      obtain ⟨t, ht⟩ : ∃ t, t = T[k] := ⟨_, rfl⟩
      rw [← ht] at cc
      clear ht
      go_wp2
      go_roundw
      case rel =>
        exact ⟨k + 1, by omega, by go_num, Rowed.stored ⟨T, PP.out.1, PP.out.2.1⟩ k _, PP.out.2.2.1.keep (Below.heap_setCell _ _ _ _ hne), PP.out.2.2.2.setCell hg3 _⟩
      case measure => simp [intOf]; omega
    · have P5 := Lib.hid (And.intro PP.out.2.2.1 (And.intro PP.out.2.2.2 hpw))
      have hkn : k = n := by omega
      subst hkn
      clear PP hlt hk hpw
      go_wp2_with fail
      refine (rnew_any A k c R _ H.out.1.len (by omega) (H.out.1.rd.below P5.out.2.1)).mono ?_
      rintro e w6 h
      obtain ⟨N, hN⟩ : ∃ N, N = 65536 := ⟨_, rfl⟩
      obtain ⟨g, cw, rfl, _, _, o6, b6⟩ := h.bytes (n := N) (by rw [initial_len, hN]) (by omega)
      have R6 : Run w p (initial R) (initial R) (.slice none 0 0) 0 [] g N cw w6 :=
        ⟨P5.out.2.1.trans (b6.mono P5.out.2.1.size), P5.out.2.2, P5.out.1.keep (b6.block p P5.out.1.lt), World.ownsRow_nil _ _ _ _, own_mono o6 P5.out.2.1.size⟩
      have N0 := Lib.hid hN
      have P6 := Lib.hid R6
      clear o6 b6 R6 P5 hN
      go_wp2_with fail
      go_loopw [13, 14] (fun o i wr => ∃ (k g cw : Nat) (v : Value) (n : Nat) (xs : List Value), k ≤ m ∧ i = .int .i64 k ∧ o = .slice (some ⟨g, 0, none⟩) N cw ∧ n ≤ k ∧ Run w p (puts (initial R) (l.take k)) (puts (initial R) (l.take k)) v n xs g N cw wr) (fun _ i _ => m - (intOf i).toNat)
      case atStart => exact ⟨0, g, cw, .slice none 0 0, 0, [], by omega, rfl, rfl, by omega, by rw [List.take_zero, puts_nil]; exact P6.out⟩
      case round =>
        clear P6
        obtain ⟨j, g, cw, v, nl, xs, hj, rfl, rfl, hnl, hr⟩ := hrel
        have PR := Lib.hid hr
        clear hr
        by_cases hlt : j < m
        · have hjl : j < l.length := by rw [H.out.2.1.len]; exact hlt
          obtain ⟨ad, rfl, hb, c0, c1, ok⟩ := H.out.2.1.rd.at_ hjl
          obtain ⟨t1, t2, t3⟩ := SM.out j hjl
          have ht := take_wr hjl
          rw [← add_add, add_one] at c1
          obtain ⟨y, hy⟩ : ∃ y, y = l[j] := ⟨_, rfl⟩
          rw [← hy] at c0 c1 ok t1 t2 t3 ht
          have OK := Lib.hid (And.intro ok (And.intro ht (And.intro c0 c1)))
          clear ok ht hy c0 c1
          have j1 : (j : Int) < (m : Int) := by omega
          have j0 : 0 ≤ (j : Int) := by omega
          go_wp2
          refine tail_region 11 (by kernel_rfl) (by kernel_rfl) ?_
          intro wd hwd
          have RD : Run w p (puts (initial R) (l.take j)) (puts (initial R) (l.take j)) v nl xs g N cw wd := PR.out.step (by rw [hwd]; exact (Below.refl _ _).drew)
          have d0 := (RD.below.cell (p := ad.add (j * 2)) (by rw [add_block]; exact hb)).trans OK.out.2.2.1
          have d1 := (RD.below.cell (p := ⟨(ad.add (j * 2)).block, (ad.add (j * 2)).off + 1, none⟩) (by show (ad.add (j * 2)).block < _; rw [add_block]; exact hb)).trans OK.out.2.2.2
          have DD := Lib.hid RD
          clear hwd RD PR
          simp only [List.take_succ_cons, List.take_zero, List.drop_succ_cons, List.drop_zero]
          repeat still_step
          refine wpStill_nil ?_
          go_wp2_with fail
          refine (write_both p (puts (initial R) (l.take j)) v nl w.heap.size xs y.a y.A y.n y.c y.b _ (by rw [puts_len]; exact initial_len _) DD.out.mem DD.out.log DD.out.below.size (by omega) OK.out.1.len (by omega) OK.out.1.cap (OK.out.1.rd.below DD.out.below) (fun a' e hn => Nat.ne_of_lt (Nat.lt_of_lt_of_le (OK.out.1.block e hn) DD.out.hp))).mono ?_
          rintro e w7 h
          obtain ⟨rfl, v7, R7, _⟩ := DD.out.write h
          have P7 := Lib.hid R7
          clear h R7 DD d0 d1
          go_wp2_with fail
          refine tail_region 11 (by kernel_rfl) (by kernel_rfl) ?_
          intro we hwe
          have RE := P7.out.step (wj := we) (by rw [hwe]; exact (Below.refl _ _).drew)
          have d0 := (RE.below.cell (p := ad.add (j * 2)) (by rw [add_block]; exact hb)).trans OK.out.2.2.1
          have d1 := (RE.below.cell (p := ⟨(ad.add (j * 2)).block, (ad.add (j * 2)).off + 1, none⟩) (by show (ad.add (j * 2)).block < _; rw [add_block]; exact hb)).trans OK.out.2.2.2
          have DE := Lib.hid RE
          clear hwe RE P7
          simp only [List.take_succ_cons, List.take_zero, List.drop_succ_cons, List.drop_zero]
          repeat still_step
          refine wpStill_nil ?_
          go_wp2_with fail
          refine (rput_any ⟨g, 0, none⟩ N cw (puts (initial R) (l.take j)) y.a y.A y.n y.c y.b _ N0.out (by rw [puts_len, N0.out]; exact initial_len _) DE.out.at_ (by omega) (by omega) OK.out.1.len (by omega) (OK.out.1.rd.below DE.out.below)).mono ?_
          rintro e w8 h
          obtain ⟨g8, c8, rfl, _, _, o8, b8⟩ := h.bytes (n := N) (by rw [put_len, puts_len, N0.out]; exact initial_len _) (by have := N0.out; omega)
          have R8 := DE.out.put b8 o8
          have ep : put (puts (initial R) (l.take j)) y.a y.b = puts (initial R) (l.take (j + 1)) := by rw [OK.out.2.1, puts_snoc]
          rw [ep] at R8
          have P8 := Lib.hid R8
          clear h o8 b8 R8 DE ep d0 d1
          go_wp2
          go_roundw
          case rel => exact ⟨j + 1, g8, c8, v7, nl + cnt y.n, _, by omega, by go_num, rfl, by unfold cnt; split <;> omega, P8.out⟩
          case measure => simp [intOf]; omega
        · have hjm : j = m := by omega
          subst hjm
          rw [List.take_of_length_le (by rw [H.out.2.1.len]; omega)] at PR
          obtain ⟨X, hX⟩ : ∃ X, X = puts (initial R) l := ⟨_, rfl⟩
          rw [← hX] at PR
          have lX : X.length = 65536 := by rw [hX, puts_len]; exact initial_len _
          have EX := Lib.hid lX
          have N1 : N ≤ 1000000 := by have := N0.out; omega
          clear hX lX
          go_wp2_with fail
          refine (clone_any p X v _ EX.out PR.out.mem).mono ?_
          rintro e w7 h
          obtain ⟨z, rfl, hz, mz, b7⟩ := h
          have P7 := Lib.hid (And.intro (PR.out.step b7) (And.intro mz (And.intro (Nat.le_trans PR.out.below.size hz) (Nat.ne_of_gt (Nat.lt_of_lt_of_le PR.out.mem.lt hz)))))
          clear hz mz b7 PR
          go_wp2_with fail
          refine (dirty_any z X none 0 0 _ EX.out P7.out.2.1).mono ?_
          rintro e w8 h
          obtain ⟨rfl, m8, a8⟩ := h
          have P8 := Lib.hid (And.intro (P7.out.1.apart P7.out.2.1 P7.out.2.2.1 P7.out.2.2.2 (a8 none)) (And.intro m8 P7.out.2.2))
          clear m8 a8 P7
          go_wp2_with fail
          refine (write_both z X (.slice none 0 0) 0 w.heap.size [] a C q f S _ EX.out P8.out.2.1 (World.ownsRow_nil _ _ _ _) P8.out.1.below.size (by omega) H.out.2.2.1.len (by omega) H.out.2.2.1.cap (H.out.2.2.1.rd.below P8.out.1.below) (fun a' e hn => Nat.ne_of_lt (Nat.lt_of_lt_of_le (H.out.2.2.1.block a' e hn) P8.out.2.2.1))).mono ?_
          rintro e w9 h
          obtain ⟨rfl, v9, m9, _, a9, _⟩ := h
          have P9 := Lib.hid (And.intro (P8.out.1.apart P8.out.2.1 P8.out.2.2.1 P8.out.2.2.2 a9) (And.intro m9 P8.out.2.2.2))
          clear m9 a9 P8
          go_wp2_with fail
          refine (bytes_all p X v N _ N0.out EX.out P9.out.1.mem).mono ?_
          rintro e wA h
          obtain ⟨gA, rfl, _, rA, bA⟩ := h
          have PA := Lib.hid (And.intro (P9.out.1.step bA) (And.intro (P9.out.2.1.keep (bA.block z P9.out.2.1.lt)) rA))
          clear rA bA P9
          go_wp2_with fail
          refine (bytes_all z (put X a S) v9 N _ N0.out (by rw [put_len]; exact EX.out) PA.out.2.1).mono ?_
          rintro e wB h
          obtain ⟨gB, rfl, _, rB, bB⟩ := h
          have PB := Lib.hid (And.intro (PA.out.1.step bB) (And.intro (PA.out.2.2.below bB) rB))
          clear rB bB PA
          go_wp2_with fail
          refine (same2_any _ _ _ _ N N X X _ (by rw [N0.out]; exact EX.out) (by rw [N0.out]; exact EX.out) N1 N1 PB.out.2.1 (own_rd PB.out.1.want)).mono ?_
          rintro e wC ⟨rfl, bC⟩
          rw [decide_eq_true rfl]
          have PC := Lib.hid (And.intro (PB.out.1.step bC) (PB.out.2.2.below bC))
          clear bC PB
          go_wp2_with fail
          refine (rput_any ⟨g, 0, none⟩ N cw X a C q f S _ N0.out (by rw [N0.out]; exact EX.out) PC.out.1.at_ (by omega) (by omega) H.out.2.2.1.len (by omega) (H.out.2.2.1.rd.below PC.out.1.below)).mono ?_
          rintro e wD h
          obtain ⟨gD, cD, rfl, _, _, oD, bD⟩ := h.bytes (n := N) (by rw [put_len, N0.out]; exact EX.out) (by have := N0.out; omega)
          have PD := Lib.hid (And.intro (PC.out.1.step bD) (And.intro (PC.out.2.below bD) (own_rd oD)))
          clear h oD bD PC
          go_wp2_with fail
          refine (same2_any _ _ _ _ N N (put X a S) (put X a S) _ (by rw [put_len, N0.out]; exact EX.out) (by rw [put_len, N0.out]; exact EX.out) N1 N1 PD.out.2.1 PD.out.2.2).mono ?_
          rintro e wE ⟨rfl, bE⟩
          rw [decide_eq_true rfl]
          have PE := Lib.hid (PD.out.1.step bE)
          clear bE PD
          go_wp2
          go_ret
          exact ⟨rfl, PE.out.below⟩
end Go.Proofs.YtllfakimcgbppaaDoor
