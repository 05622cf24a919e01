/- awake of layer 16. -/
import Derived.Test.YtgilkbmipgejeaaDoorPk6a
import Derived.Test.YtgilkbmipgejeaaDoorPk5a
import Derived.Test.YtgilkbmipgejeaaDoorPk1a
import Derived.Test.YtgilkbmipgejeaaDoorPk0a
namespace Go.Proofs.YtgilkbmipgejeaaDoor
open Go.RowKit Num Dec
set_option linter.unusedVariables false
set_option linter.unusedSimpArgs false
set_option maxRecDepth 100000

def romA : List Int := [96, 1, 240, 0, 171, 205]
theorem romA_at (j : Nat) (hj : j < 6) : (initial romA)[512 + j]? = romA[j]? := by
  unfold initial
  exact get_written _ romA 512 (512 + j) j (by rw [put_len, put_len]; exact zeros_len) (by decide) (by omega) (by omega) hj
theorem byA (x : Int) (k j : Nat) (v : Nat) (hk : k < 4) (hx : x + k = 512 + j) (hj : j < 6) (hv : romA[j]? = some (v : Int)) : byAt (initial romA) x k = v := by
  unfold byAt
  rw [List.getD_eq_getElem?_getD, seg_get _ x 4 k (initial_len _) hk, show ((x + (k : Int)) % 65536).toNat = 512 + j by omega, romA_at j hj, hv]
  simp
theorem decA1 : decAt (initial romA) 512 3 = (⟨8, 0, 0, 0, 1, 0, 2⟩ : Ins) := by
  unfold decAt
  rw [byA 512 0 0 96 (by decide) (by decide) (by decide) rfl, byA 512 1 1 1 (by decide) (by decide) (by decide) rfl, byA 512 2 2 240 (by decide) (by decide) (by decide) rfl, byA 512 3 3 0 (by decide) (by decide) (by decide) rfl]
  decide +kernel
theorem decA0 : decAt (initial romA) 512 0 = (⟨0, 0, 0, 0, 0, 0, 2⟩ : Ins) := by
  unfold decAt
  rw [byA 512 0 0 96 (by decide) (by decide) (by decide) rfl, byA 512 1 1 1 (by decide) (by decide) (by decide) rfl, byA 512 2 2 240 (by decide) (by decide) (by decide) rfl, byA 512 3 3 0 (by decide) (by decide) (by decide) rfl]
  decide +kernel
theorem decA2 : decAt (initial romA) 514 1 = (⟨0, 0, 0, 0, 0, 0, 2⟩ : Ins) := by
  unfold decAt
  rw [byA 514 0 2 240 (by decide) (by decide) (by decide) rfl, byA 514 1 3 0 (by decide) (by decide) (by decide) rfl, byA 514 2 4 171 (by decide) (by decide) (by decide) rfl, byA 514 3 5 205 (by decide) (by decide) (by decide) rfl]
  decide +kernel
theorem decA3 : decAt (initial romA) 514 3 = (⟨48, 0, 0, 0, 0, 43981, 4⟩ : Ins) := by
  unfold decAt
  rw [byA 514 0 2 240 (by decide) (by decide) (by decide) rfl, byA 514 1 3 0 (by decide) (by decide) (by decide) rfl, byA 514 2 4 171 (by decide) (by decide) (by decide) rfl, byA 514 3 5 205 (by decide) (by decide) (by decide) rfl]
  decide +kernel
theorem wr512 : wr16 512 = 512 := by decide
theorem wr514 : wr16 514 = 514 := by decide
def eA1 : Ents := [(512, (⟨8, 0, 0, 0, 1, 0, 2⟩ : Ins))]
def eA2 : Ents := [(512, (⟨8, 0, 0, 0, 1, 0, 2⟩ : Ins)), (514, (⟨48, 0, 0, 0, 0, 43981, 4⟩ : Ins))]
theorem dropA1 : dropE eA2 516 1 = eA1 := by decide +kernel
theorem dropA2 : dropL eA1 [(515, 9), (0, 0)] = [] := by decide +kernel

/-- '.Op' of an instruction. -/
theorem exec_opOf {o : Oper} {ρ : Operand → Value} {w : World} (x : Operand) (cs : Array Value) (v : Value) (ho : o.op = .field 38 x 0) (hx : ρ x = .agg cs) (hv : cs[0]? = some v) : (execOp ρ o).run Tryd.prog w = .ok (.value v) w := by
  have h := part_int cs 0 v hv w
  unfold execOp
  simp only [ho, hx, Instr.field, Sem.run_bind, run_underlying Tryd.underlying38, Result.andThen_ok]
  simp [Sem.run_bind, asAgg, h]
/-- What is kept all through awake: the memory, two caches, variables. -/
structure AwI (w0 : World) (pm p q : Nat) (O O2 : Nat → Prop) (l : Ents) (h m h2 m2 : Nat) (vs : List (Nat × Array Value)) (w : World) : Prop where
  mm : MemAt pm (initial romA) (.slice none 0 0) w
  c : IcF O p 3 true l h m w
  d : IcF O2 q 1 false [] h2 m2 w
  low : Below w0.heap.size w0 w
  mb : w0.heap.size ≤ pm
  cb : ∀ k, O k → w0.heap.size ≤ k
  db : ∀ k, O2 k → w0.heap.size ≤ k
  cd : ∀ k, O k → ¬ O2 k
  cm : ¬ O pm
  dm : ¬ O2 pm
  vars : ∀ v ∈ vs, Blk v.1 38 v.2 w ∧ ¬ O v.1 ∧ ¬ O2 v.1
section
variable {w0 w w' : World} {pm p q h m h2 m2 h' m' : Nat} {O O2 O' : Nat → Prop} {l l' : Ents} {vs : List (Nat × Array Value)}
theorem AwI.ltC (A : AwI w0 pm p q O O2 l h m h2 m2 vs w) : ∀ k, O k → k < w.heap.size := icSpec.lt _ _ _ _ _ _ _ _ A.c
theorem AwI.ltD (A : AwI w0 pm p q O O2 l h m h2 m2 vs w) : ∀ k, O2 k → k < w.heap.size := icSpec.lt _ _ _ _ _ _ _ _ A.d
theorem AwI.step (A : AwI w0 pm p q O O2 l h m h2 m2 vs w) (b : Below w.heap.size w w') : AwI w0 pm p q O O2 l h m h2 m2 vs w' :=
  ⟨A.mm.keep (b.block pm A.mm.lt), icSpec.step A.c b, icSpec.step A.d b, A.low.trans (b.mono A.low.size), A.mb, A.cb, A.db, A.cd, A.cm, A.dm, fun v hv => ⟨(A.vars v hv).1.step b, (A.vars v hv).2⟩⟩
theorem AwI.new (A : AwI w0 pm p q O O2 l h m h2 m2 vs w) (cs : Array Value) : AwI w0 pm p q O O2 l h m h2 m2 ((w.heap.size, cs) :: vs) (w.alloc (.cells cs 38)) := by
  have B := A.step (below_new' w (.cells cs 38))
  refine ⟨B.mm, B.c, B.d, B.low, B.mb, B.cb, B.db, B.cd, B.cm, B.dm, fun v hv => ?_⟩
  rcases List.mem_cons.1 hv with rfl | hv
  · exact ⟨Blk.new w _ cs, fun e => Nat.lt_irrefl _ (A.ltC _ e), fun e => Nat.lt_irrefl _ (A.ltD _ e)⟩
  · exact B.vars v hv
theorem AwI.toC (A : AwI w0 pm p q O O2 l h m h2 m2 vs w) (t : IcTo IcF O p 3 true l' h' m' w w') : ∃ O', AwI w0 pm p q O' O2 l' h' m' h2 m2 vs w' := by
  obtain ⟨O', f, g, k⟩ := t
  refine ⟨O', A.mm.keep (k.block pm A.mm.lt A.cm), f, icSpec.keep _ _ _ _ _ _ _ _ _ _ A.d k (fun i a b => A.cd i b a), A.low.trans (k.below A.low.size A.cb), A.mb, g.above A.low.size A.cb, A.db, fun i a b => ?_, g.away A.mm.lt A.cm, A.dm, fun v hv => ?_⟩
  · rcases g i a with e | e
    · exact A.cd i e b
    · have := A.ltD i b; omega
  · obtain ⟨h1, h2, h3⟩ := A.vars v hv
    exact ⟨(k.block v.1 h1.lt h2).trans h1, g.away h1.lt h2, h3⟩
theorem AwI.toD (A : AwI w0 pm p q O O2 l h m h2 m2 vs w) (t : IcTo IcF O2 q 1 false [] h' m' w w') : ∃ O', AwI w0 pm p q O O' l h m h' m' vs w' := by
  obtain ⟨O', f, g, k⟩ := t
  refine ⟨O', A.mm.keep (k.block pm A.mm.lt A.dm), icSpec.keep _ _ _ _ _ _ _ _ _ _ A.c k (fun i a b => A.cd i a b), f, A.low.trans (k.below A.low.size A.db), A.mb, A.cb, g.above A.low.size A.db, fun i a b => ?_, A.cm, g.away A.mm.lt A.dm, fun v hv => ?_⟩
  · rcases g i b with e | e
    · exact A.cd i a e
    · have := A.ltC i a; omega
  · obtain ⟨h1, h2, h3⟩ := A.vars v hv
    exact ⟨(k.block v.1 h1.lt h3).trans h1, h2, g.away h1.lt h3⟩
end

theorem inval2 {O : Nat → Prop} {p h m b : Nat} {lv a1 n1 a2 n2 : Int} {en : Bool} {l : Ents} {w : World} (F : IcF O p lv en l h m w) (hb : Blk b 52 #[.int .i64 a1, .int .i64 n1, .int .i64 a2, .int .i64 n2] w) (hno : ¬ O b) (l1 : l.length ≤ 1000)
    (h1 : 0 ≤ a1 ∧ a1 ≤ 65535 ∧ n1 ≤ 65536) (h2 : 0 ≤ a2 ∧ a2 ≤ 65535 ∧ n2 ≤ 65536) :
    Calls Tryd.prog 20 #[.pointer (some ⟨p, 0, none⟩), .slice (some ⟨b, 0, none⟩) 2 2] w fun e w' => e = .returned (.tuple #[]) ∧ IcTo IcF O p lv en (dropL l [(a1, n1), (a2, n2)]) h m w w' := by
  obtain ⟨pg, rfl, C, G, ho, hl, wl, he⟩ := F
  refine (inval16_any pg p lv en h m l [(a1, n1), (a2, n2)] (some ⟨b, 0, none⟩) 2 2 w C G ho hl (by omega) (fun i hi => ?_) rfl (by decide) (fun s hs => ?_)).mono ?_
  · have : i = 0 ∨ i = 1 := by simp at hi; omega
    rcases this with rfl | rfl
    · exact ⟨b, 0, rfl, hb.lt, hno, (hb.cell 0).trans rfl, (hb.cell 1).trans rfl⟩
    · exact ⟨b, 0, rfl, hb.lt, hno, (hb.cell 2).trans rfl, (hb.cell 3).trans rfl⟩
  · simp only [List.mem_cons, List.not_mem_nil, or_false] at hs
    rcases hs with rfl | rfl
    · exact h1
    · exact h2
  · rintro e w' ⟨rfl, C', G', K'⟩
    exact ⟨rfl, icTo C' G' K' Grew.refl (ho.dropL _) (fun e he => hl e (dropL_mem _ _ he)) wl (fun e => by rw [he e]; unfold dropL dropL dropL; split <;> split <;> rfl)⟩
set_option maxHeartbeats 16000000 in
theorem awake16 (w : World) (hL : Laid w) : Calls Tryd.prog 8 #[] w fun e w' => e = .returned (.bool true) ∧ Below w.heap.size w w' := by
  have HL := Lib.hid hL
  clear hL
  go_enter Tryd.func8, Tryd.ntmps8
  go_wp2_with fail
  refine (new_yes _ 6 6 romA _ (by omega) rfl (rd_new w romA 5) (HL.out.step (below_new w _))).mono ?_
  rintro e w1 h
  obtain ⟨pm, rfl, hp, mm, b1⟩ := h
  have B1 := Lib.hid ((below_new w (.cells (arr romA) 5)).trans (b1.mono (by simp)))
  have MM := Lib.hid (And.intro mm (Nat.le_trans (by simp) hp : w.heap.size ≤ pm))
  clear hp mm b1
  go_wp2_with fail
  refine (icSpec.new_ 3 true _ (HL.out.step B1.out) (by decide)).mono ?_
  rintro e w2 ⟨p, O, rfl, hF, hO, b2⟩
  have FC := Lib.hid (And.intro hF hO)
  have B2 := Lib.hid (B1.out.trans (b2.mono B1.out.size))
  have MN := Lib.hid (show ¬ O pm from fun c => by have := hO pm c; have := MM.out.1.lt; omega)
  have MM := Lib.hid (And.intro (MM.out.1.keep (b2.block pm MM.out.1.lt)) MM.out.2)
  have S1 := Lib.hid B1.out.size
  clear hF hO b2 B1
  go_wp2_with fail
  refine (icSpec.new_ 1 false _ (HL.out.step B2.out) (by decide)).mono ?_
  rintro e w3 ⟨q, O2, rfl, hF, hO, b3⟩
  have A3 := Lib.hid (show AwI w pm p q O O2 [] 0 0 0 0 [] w3 from ⟨MM.out.1.keep (b3.block pm MM.out.1.lt), icSpec.step FC.out.1 b3, hF, B2.out.trans (b3.mono B2.out.size), MM.out.2, fun k hk => Nat.le_trans S1.out (FC.out.2 k hk), fun k hk => Nat.le_trans B2.out.size (hO k hk), fun k a b => (by have := hO k b; have := icSpec.lt _ _ _ _ _ _ _ _ FC.out.1 k a; omega), MN.out, fun c => (by have := hO pm c; have := MM.out.1.lt; omega), fun v hv => (by cases hv)⟩)
  clear hF hO b3 FC B2 MN MM S1
  have gt0 := icSpec.miss O p 3 true _ _ _ pm (initial romA) (.slice none 0 0) _ 512 (HL.out.step A3.out.low) A3.out.c A3.out.mm (initial_len _) (btm_initial (by decide)) A3.out.cm (by decide) (by decide) (by decide) (by decide) (by decide) (by decide)
  rw [decA1] at gt0
  have GT := Lib.hid gt0
  clear gt0
  go_wp2_with fail
  refine GT.out.mono ?_
  rintro e w4 ⟨rfl, ht⟩
  obtain ⟨O4, a0⟩ := A3.out.toC (show IcTo IcF O p 3 true eA1 0 1 _ w4 from ht)
  have A4 := Lib.hid (a0.new #[.int .i64 8, .int .i64 0, .int .i64 0, .int .i64 0, .int .i64 1, .int .i64 0, .int .i64 2])
  unfold icells
  simp only []
  clear ht GT A3 a0
  go_upto_region 8 with fail
  obtain ⟨ga, hg⟩ : ∃ g, w4.heap.size = g := ⟨_, rfl⟩
  rw [hg] at A4 ⊢
  clear hg
  generalize World.alloc _ _ = u4 at A4 ⊢
  have gt0 := icSpec.hit O4 p 3 true _ _ _ pm (initial romA) (.slice none 0 0) _ 512 ⟨8, 0, 0, 0, 1, 0, 2⟩ (HL.out.step A4.out.low) A4.out.c A4.out.mm (initial_len _) (btm_initial (by decide)) A4.out.cm (by decide) (by decide) (by decide) (by decide) (by decide) (by decide)
  have GT := Lib.hid gt0
  clear gt0
  go_wp2_with fail
  refine GT.out.mono ?_
  rintro e w5 ⟨rfl, ht⟩
  obtain ⟨O5, a0⟩ := A4.out.toC (show IcTo IcF O4 p 3 true eA1 1 1 _ w5 from ht)
  have A5 := Lib.hid (a0.new #[.int .i64 8, .int .i64 0, .int .i64 0, .int .i64 0, .int .i64 1, .int .i64 0, .int .i64 2])
  unfold icells
  simp only []
  clear ht GT A4 a0
  go_upto_region 9 with fail
  obtain ⟨gb, hg⟩ : ∃ g, w5.heap.size = g := ⟨_, rfl⟩
  rw [hg] at A5 ⊢
  clear hg
  generalize World.alloc _ _ = u5 at A5 ⊢
  have gt0 := icSpec.miss O2 q 1 false _ _ _ pm (initial romA) (.slice none 0 0) _ 514 (HL.out.step A5.out.low) A5.out.d A5.out.mm (initial_len _) (btm_initial (by decide)) A5.out.dm (by decide) (by decide) (by decide) (by decide) (by decide) (by decide)
  rw [decA2] at gt0
  have GT := Lib.hid gt0
  clear gt0
  go_wp2_with fail
  refine GT.out.mono ?_
  rintro e w6 ⟨rfl, ht⟩
  obtain ⟨P6, a0⟩ := A5.out.toD (show IcTo IcF O2 q 1 false [] 0 1 _ w6 from ht)
  have A6 := Lib.hid (a0.new #[.int .i64 0, .int .i64 0, .int .i64 0, .int .i64 0, .int .i64 0, .int .i64 0, .int .i64 2])
  unfold icells
  simp only []
  clear ht GT A5 a0
  go_upto_region 10 with fail
  obtain ⟨gx, hg⟩ : ∃ g, w6.heap.size = g := ⟨_, rfl⟩
  rw [hg] at A6 ⊢
  clear hg
  generalize World.alloc _ _ = u6 at A6 ⊢
  have gt0 := icSpec.miss O5 p 3 true _ _ _ pm (initial romA) (.slice none 0 0) _ 514 (HL.out.step A6.out.low) A6.out.c A6.out.mm (initial_len _) (btm_initial (by decide)) A6.out.cm (by decide) (by decide) (by decide) (by decide) (by decide) (by decide)
  rw [decA3] at gt0
  have GT := Lib.hid gt0
  clear gt0
  go_wp2_with fail
  refine GT.out.mono ?_
  rintro e w7 ⟨rfl, ht⟩
  obtain ⟨O7, a0⟩ := A6.out.toC (show IcTo IcF O5 p 3 true eA2 1 2 _ w7 from ht)
  have A7 := Lib.hid (a0.new #[.int .i64 48, .int .i64 0, .int .i64 0, .int .i64 0, .int .i64 0, .int .i64 43981, .int .i64 4])
  unfold icells
  simp only []
  clear ht GT A6 a0
  go_upto_region 11 with fail
  obtain ⟨gy, hg⟩ : ∃ g, w7.heap.size = g := ⟨_, rfl⟩
  rw [hg] at A7 ⊢
  clear hg
  generalize World.alloc _ _ = u7 at A7 ⊢
  have X7 := Blk.new u7 52 #[.int .i64 516, .int .i64 1]
  have a7 := A7.out.step (below_new' u7 (.cells #[.int .i64 516, .int .i64 1] 52))
  have iv := icSpec.drop O7 p 3 true eA2 1 2 _ ⟨u7.heap.size, 0, none⟩ 1 516 1 (HL.out.step a7.low) a7.c ((X7.cell 0).trans rfl) ((X7.cell 1).trans rfl) X7.lt (fun c => Nat.lt_irrefl _ (A7.out.ltC _ c)) (by decide) (by decide) (by decide) (by decide) (by decide) (by decide)
  rw [dropA1] at iv
  have IV := Lib.hid iv
  have A7 := Lib.hid a7
  clear iv a7 X7
  go_wp2_with fail
  refine IV.out.mono ?_
  rintro e w8 ⟨rfl, ht⟩
  obtain ⟨O8, a0⟩ := A7.out.toC (show IcTo IcF O7 p 3 true eA1 1 2 _ w8 from ht)
  have A8 := Lib.hid a0
  clear ht IV A7 a0
  have pk := icSpec.peek O8 p 3 true eA1 1 2 _ 514 (HL.out.step A8.out.low) A8.out.c (by decide) (by decide) (by decide)
  rw [show peekE eA1 514 = ⟨0, 0, 0, 0, 0, 0, 0⟩ by decide +kernel, show (lookE eA1 (wr16 514)).isSome = false by decide +kernel] at pk
  unfold icells at pk
  simp only [] at pk
  have PK := Lib.hid pk
  clear pk
  go_wp2_with fail
  refine PK.out.mono ?_
  rintro e w9 ⟨rfl, b0⟩
  have A9 := Lib.hid ((A8.out.step b0).new #[.int .i64 0, .int .i64 0, .int .i64 0, .int .i64 0, .int .i64 0, .int .i64 0, .int .i64 0])
  clear b0 PK A8
  go_upto_region 13 with fail
  obtain ⟨gp, hg⟩ : ∃ g, w9.heap.size = g := ⟨_, rfl⟩
  rw [hg] at A9 ⊢
  clear hg
  generalize World.alloc _ _ = u9 at A9 ⊢
  have pk := icSpec.peek O8 p 3 true eA1 1 2 _ 512 (HL.out.step A9.out.low) A9.out.c (by decide) (by decide) (by decide)
  rw [show peekE eA1 512 = ⟨8, 0, 0, 0, 1, 0, 2⟩ by decide +kernel, show (lookE eA1 (wr16 512)).isSome = true by decide +kernel] at pk
  unfold icells at pk
  simp only [] at pk
  have PK := Lib.hid pk
  clear pk
  go_wp2_with fail
  refine PK.out.mono ?_
  rintro e w10 ⟨rfl, b0⟩
  have A10 := Lib.hid ((A9.out.step b0).new #[.int .i64 8, .int .i64 0, .int .i64 0, .int .i64 0, .int .i64 1, .int .i64 0, .int .i64 2])
  clear b0 PK A9
  go_upto_region 14 with fail
  obtain ⟨gq, hg⟩ : ∃ g, w10.heap.size = g := ⟨_, rfl⟩
  rw [hg] at A10 ⊢
  clear hg
  generalize World.alloc _ _ = u10 at A10 ⊢
  have VL := Lib.hid ((icSpec.valid O8 p 3 true eA1 1 2 _ (HL.out.step A10.out.low) A10.out.c (by decide)).mono (fun e w' h => (show e = .returned (.int .i64 1) ∧ Below _ _ w' from h)))
  go_wp2_with fail
  refine VL.out.mono ?_
  rintro e w11 ⟨rfl, b0⟩
  have A11 := Lib.hid (A10.out.step b0)
  clear b0 VL A10
  have X := Blk.new w11 52 #[.int .i64 515, .int .i64 9, .int .i64 0, .int .i64 0]
  have a0 := A11.out.step (below_new' w11 (.cells #[.int .i64 515, .int .i64 9, .int .i64 0, .int .i64 0] 52))
  have iv := inval2 a0.c X (fun c => Nat.lt_irrefl _ (A11.out.ltC _ c)) (by decide) (by decide) (by decide)
  rw [dropA2] at iv
  have IV := Lib.hid iv
  have A11' := Lib.hid a0
  clear iv a0 X A11
  go_wp2_with fail
  refine IV.out.mono ?_
  rintro e w12 ⟨rfl, ht⟩
  obtain ⟨O12, a0⟩ := A11'.out.toC (show IcTo IcF O8 p 3 true [] 1 2 _ w12 from ht)
  have A12 := Lib.hid a0
  clear ht IV A11' a0
  go_upto_region 16 with fail
  have Vga := (A12.out.vars (ga, #[.int .i64 8, .int .i64 0, .int .i64 0, .int .i64 0, .int .i64 1, .int .i64 0, .int .i64 2]) (by simp)).1
  have ga0 := Calm.cell ((Vga.cell 0).trans rfl) Vga.lt
  have ga1 := Calm.cell ((Vga.cell 1).trans rfl) Vga.lt
  have ga2 := Calm.cell ((Vga.cell 2).trans rfl) Vga.lt
  have ga3 := Calm.cell ((Vga.cell 3).trans rfl) Vga.lt
  have ga4 := Calm.cell ((Vga.cell 4).trans rfl) Vga.lt
  have ga5 := Calm.cell ((Vga.cell 5).trans rfl) Vga.lt
  have ga6 := Calm.cell ((Vga.cell 6).trans rfl) Vga.lt
  clear Vga
  have Vgb := (A12.out.vars (gb, #[.int .i64 8, .int .i64 0, .int .i64 0, .int .i64 0, .int .i64 1, .int .i64 0, .int .i64 2]) (by simp)).1
  have gb0 := Calm.cell ((Vgb.cell 0).trans rfl) Vgb.lt
  have gb1 := Calm.cell ((Vgb.cell 1).trans rfl) Vgb.lt
  have gb2 := Calm.cell ((Vgb.cell 2).trans rfl) Vgb.lt
  have gb3 := Calm.cell ((Vgb.cell 3).trans rfl) Vgb.lt
  have gb4 := Calm.cell ((Vgb.cell 4).trans rfl) Vgb.lt
  have gb5 := Calm.cell ((Vgb.cell 5).trans rfl) Vgb.lt
  have gb6 := Calm.cell ((Vgb.cell 6).trans rfl) Vgb.lt
  clear Vgb
  have Vgx := (A12.out.vars (gx, #[.int .i64 0, .int .i64 0, .int .i64 0, .int .i64 0, .int .i64 0, .int .i64 0, .int .i64 2]) (by simp)).1
  have gx0 := Calm.cell ((Vgx.cell 0).trans rfl) Vgx.lt
  have gx1 := Calm.cell ((Vgx.cell 1).trans rfl) Vgx.lt
  have gx2 := Calm.cell ((Vgx.cell 2).trans rfl) Vgx.lt
  have gx3 := Calm.cell ((Vgx.cell 3).trans rfl) Vgx.lt
  have gx4 := Calm.cell ((Vgx.cell 4).trans rfl) Vgx.lt
  have gx5 := Calm.cell ((Vgx.cell 5).trans rfl) Vgx.lt
  have gx6 := Calm.cell ((Vgx.cell 6).trans rfl) Vgx.lt
  clear Vgx
  have Vgy := (A12.out.vars (gy, #[.int .i64 48, .int .i64 0, .int .i64 0, .int .i64 0, .int .i64 0, .int .i64 43981, .int .i64 4]) (by simp)).1
  have gy0 := Calm.cell ((Vgy.cell 0).trans rfl) Vgy.lt
  have gy1 := Calm.cell ((Vgy.cell 1).trans rfl) Vgy.lt
  have gy2 := Calm.cell ((Vgy.cell 2).trans rfl) Vgy.lt
  have gy3 := Calm.cell ((Vgy.cell 3).trans rfl) Vgy.lt
  have gy4 := Calm.cell ((Vgy.cell 4).trans rfl) Vgy.lt
  have gy5 := Calm.cell ((Vgy.cell 5).trans rfl) Vgy.lt
  have gy6 := Calm.cell ((Vgy.cell 6).trans rfl) Vgy.lt
  clear Vgy
  have VC := Lib.hid (fun x : Calm w12 => (icSpec.valid O12 p 3 true [] 1 2 x.w (HL.out.step (A12.out.step x.below).low) (A12.out.step x.below).c (by decide)).mono (fun e w' h => (show e = .returned (.int .i64 0) ∧ Below _ _ w' from h)))
  have HC := Lib.hid (fun x : Calm w12 => (icSpec.hits O12 p 3 true [] 1 2 x.w (HL.out.step (A12.out.step x.below).low) (A12.out.step x.below).c).mono (fun e w' h => (show e = .returned (.int .i64 1) ∧ Below _ _ w' from h)))
  have MC := Lib.hid (fun x : Calm w12 => (icSpec.misses O12 p 3 true [] 1 2 x.w (HL.out.step (A12.out.step x.below).low) (A12.out.step x.below).c).mono (fun e w' h => (show e = .returned (.int .i64 2) ∧ Below _ _ w' from h)))
  have VD := Lib.hid (fun x : Calm w12 => (icSpec.valid P6 q 1 false [] 0 1 x.w (HL.out.step (A12.out.step x.below).low) (A12.out.step x.below).d (by decide)).mono (fun e w' h => (show e = .returned (.int .i64 0) ∧ Below _ _ w' from h)))
  have MD := Lib.hid (fun x : Calm w12 => (icSpec.misses P6 q 1 false [] 0 1 x.w (HL.out.step (A12.out.step x.below).low) (A12.out.step x.below).d).mono (fun e w' h => (show e = .returned (.int .i64 1) ∧ Below _ _ w' from h)))
  have VN := Lib.hid (fun x : Calm w12 => (valid16_nil x.w).mono (fun e w' h => (show e = .returned (.int .i64 0) ∧ Below x.w.heap.size x.w w' from ⟨h.1, h.2 ▸ Below.refl _ _⟩)))
  have gn := fun x : Calm w12 => get16_nil pm (initial romA) (.slice none 0 0) 512 x.w (initial_len _) (A12.out.step x.below).mm (btm_initial (by decide))
  rw [decA0] at gn
  unfold icells at gn
  simp only [] at gn
  have GN := Lib.hid gn
  clear gn
  refine calm_plain ?_
  simp only [List.append_eq, List.cons_append, List.nil_append]
  repeat (go_big_quiet_step (first
    | (go_at_call 24; first | (with_reducible exact calm_call (VC.out _)) | (with_reducible exact calm_call (VD.out _)) | (with_reducible exact calm_call (VN.out _)))
    | (go_at_call 26; exact calm_call (HC.out _))
    | (go_at_call 27; first | (with_reducible exact calm_call (MC.out _)) | (with_reducible exact calm_call (MD.out _)))
    | (go_at_call 14; exact calm_call (GN.out _))))
  refine quiet_run (by rfl) (.int .i64 0) (fun w' _ => exec_opOf (.tmp 127) _ _ rfl rfl rfl) ?_
  simp only [Act.put, List.setIfInBounds_toArray, List.set_cons_zero, List.set_cons_succ]
  repeat (go_big_quiet_step (fail))
  refine wpQuiet_nil ?_
  intro _ hw'
  obtain ⟨x, rfl⟩ := hw'
  have BE := Lib.hid (A12.out.step x.below).low
  go_wp2_with fail
  go_ret
  exact ⟨rfl, BE.out⟩
end Go.Proofs.YtgilkbmipgejeaaDoor
